import PyProof.Rows.All
import Wide.All
import OpenK.AllK
import Wide.FinOn
import Lean
import PyProof.EqAt
import PyProof.EqKinds
import PyProof.TupleCall
import KE.KDictSum
import PyProof.AttrMissHeap
import PyProof.WalksMore
import KE.LcSums
import PyProof.AutoListH
import PyProof.ListMulRoad
import KE.KSortTup
import PyProof.ZipIter
import PyProof.Draws
import PyProof.EnumFor
import PyProof.ReprRoads
import PyProof.ListRange
import PyProof.ListNew
import PyProof.StrCalls2
import PyProof.CallStr
import PySem.Challenge.RW_leastrecord_k84_looks_and_runs_as_texts
open Option renaming some->fv,none->UB,getD_some->Vs,isSome_iff_exists->XG,map_some->XS,isSome_map->Zd,isSome_some->aaY,getD_none->abp
open PySem renaming wpAny_bind->UA,Value->UH,sizeLine->UK,Shared->UM,wpAny_pure->UO,Addr->U0,wpAny->U2,model->U8,compareOp->Vf,mainGlobals->Vh,starEach->Vk,Program->Vl,wpAny_mono->Vo,foldedSetIterable->Vt,Expr->Vu,World->VE,Paired->VH,assignEach->VM,Heap->VO,sysModules->VP,bootBuiltins->VR,binaryOp->VX,wpAny_field->VZ,wpAny_newObj_type->V0,behindInMarks->V1,wpAny_ite_split->V9,wpAny_callSpecial?_slot->Wb,Around->Wf,wpAny_holding->Wg,wpAny_call_entry->Wq,wpAny_pyIter_tuple->Wr,eval->Wt,wpAny_seqItems->Wx,wpAny_truthy_bool->Wy,call_meets->WA,compEnvC->WC,wpAny_setField_rec->WJ,mem_of_lookup->W3,tupleKind_room_in1->Xb,swapsWith->Xh,cellsFrom->Xi,attributeBase->Xj,wpAny_load->Xn,PyData->Xo,wpAny_typeOf->Xr,cLine->XD,FuncData->XE,bindArgs->XF,wpAny_passesOwn->XR,Builtin->XT,backTo->Yh,wpAny_newList->Yk,wpAny_onRaise->Yl,NameKind->Yn,wpAny_updateSeq_pair->Yq,wpAny_execs_nil->Yt,assign->Yu,codeAny_builtin->Yy,getItem->YE,wpAny_Call_Name_kw->YS,wpAny_binaryOp_repeat_ref->Y4,Scope->Y7,holding->Y9,subscripted->Zb,sliceBounds->Zc,swapsWithSole->Zi,swappedStores->Zj,wpAny_comprehension_free->Zn,IsPair->Zr,tupleKind->Zu,noFill_tuple_add->Zx,pushCells->Zz,BindsTo->ZL,codeAny->ZM,IsPart->ZN,typeIs_int->ZQ,valueAt->ZT,wpAny_rule->ZW,letOwnedTupleGo->Z1,wpAny_specialOf->Z3,pushCells_keeps->Z5,Stmt->Z8,wpAny_isTrue_Compare1->Z9,wpAny_notOrdered_dict->aad,wpAny_letTemporaryGo->aal,newFunctionEnv->aam,field->aav,Keyword->aaB,callerA->aaC,wpAny_standAt->aaN,seq_tuple_add->aaO,typeIs_str->aaV,PlainAttrs->aaX,codeAny_mono->aa4,concat_meets->aa5,seqIndex_neg->aa7,ZipApart->abi,isTrue->abl,pyNext->abm,pyIter->abn,seqSlot_of->abt,seqIndex_of->abC,keywordEach->abD,atKey->abE,Meets->abG,wpAny_letGo->abI,standAt->abR,rawInt->abT,call->abX,Within->ab2
open PySem.W renaming Frag->UC,kia_one->VQ,fnOf->V2,nsIn->V4,mg_of->V5,emptyDict->Wh,instObj->WM,findIn->W6,keepIn->W7,kas_sort->Xf,cellsFrom_some->X6,OpenLaw->Yp,kia_tup->YI,kitOne->YR,kitx_list->Zk,kitx_dict->Zl,codeIn->ZS,lookIn->aaj,kitAny->aau,specialIn->aa3,plainGet->abo,takerIn->abL,WalkO->abS,kitx_float->abU,kitx_tuple->abV,isFn->ab4
open PySem.Heap renaming get?_push_of_some->UD,lt_size->UT,get?_push_size->UY,size_push->Vy,push->Wc,get?_none_of_le->Wv,get?_push_ne->Ya,size_update->ZE,SameBut->ZK,get?_update_other->ZP,get?_update_self->aab,get?_update_ne->aaH
open List renaming length_map->UE,getElem?_cons_succ->UG,getElem?_eq_some_iff->UJ,replicate->UN,map_cons->UP,getElem?_eq_getElem->UQ,mem_of_getElem?->UR,length_cons->UU,mem_cons->UW,mem_cons_self->UX,mem_cons_of_mem->UZ,getElem?_map->U1,length_append->U5,mem_append_right->U9,size_toArray->Vb,not_mem_nil->Vc,getElem?_append_right->Vd,mem_map->Vg,forall_mem_cons->Vi,getElem?_append_left->Vj,append_assoc->Vm,filter_cons_of_pos->Vn,append_nil->Vp,range->Vq,mem_singleton->Vz,filter_cons_of_neg->VB,getD_eq_getElem?_getD->VC,mem_or_eq_of_mem_set->VG,nil_append->VJ,getElem?_set_self->VS,length_take->VT,map_nil->VU,take_of_length_le->VW,mem_append->V6,length_set->V7,length_nil->V8,map_append->Wa,drop_eq_nil_of_le->Wi,map_map->Wj,getElem_mem->Ws,getElem?_set_ne->Ww,any_cons->WG,lookup_cons->WH,nodup_cons->WN,mem_of_mem_take->WT,filterMap_cons_none->WY,filterMap_cons_some->WZ,mem_range->W4,getElem?_replicate->W8,length_drop->W9,pairwise_mergeSort->Xa,forIn_cons->Xe,mem_append_left->Xm,all_eq_true->Xs,drop_eq_getElem_cons->Xw,getElem?_eq_none_iff->Xx,mem_of_find?_eq_some->Xy,mergeSort_perm->XA,length_pos_iff->XB,all_cons->XI,sum_cons->XO,mem_filter->XQ,pairwise_map->X9,filterMap_eq_map'->Yc,map_take->Ym,length->Yo,eq_nil_of_length_eq_zero->Yr,filterMap_cons->YC,filter_sublist->YD,idxOf_lt_length_of_mem->YM,set_cons_succ->YX,pairwise_cons->YZ,extract_eq_take_drop->Y6,getElem?_inj->Zf,nodup_append->Zg,pairwise_singleton->ZF,sum_nil->Z0,of_mem_zip->Z2,find?_some->Z7,length_replicate->aaa,length_singleton->aac,getElem?_eq_none->aaf,length_filter_le->aag,drop_zero->aar,range'->aaw,mem_of_mem_drop->aaA,replicate_succ->aaG,take_succ_cons->aaL,mem_filterMap->aaT,getElem?_take->aa1,ext_getElem?->abh,length_range->abj,mem_toArray->abr,cons_append->abw,take_length->aby,range'_succ->abz,ext_getElem->abA,find?_cons->abM,headD_cons->abP,foldl->abW,take_zero->abZ,map_drop->ab1,map->ab8
open PySem.Str renaming ofString->UI,ofString_eq_toList->Yb,length_append->Yd
open Nat renaming le_refl->UL,lt_of_lt_of_le->US,ne_of_lt->U7,le_trans->Va,lt_irrefl->Vr,zero_le->Vw,lt_or_ge->Wu,ne_of_gt->WD,le_of_lt->WO,lt_succ_of_lt->WQ,le_succ_of_le->WR,min_eq_right->Xt,min_eq_left->XU,min_le_right->Yi,not_lt_zero->Yz,lt_trans->YF,le_total->YH,lt_of_le_of_lt->YV,lt_of_lt_of_eq->YW,add_assoc->Zt,lt_succ_self->Zw,add_sub_cancel_left->ZH,lt_of_succ_lt_succ->ZY,le_succ->aan,ble->aaD,not_lt->aaZ,mul_comm->aa8,lt_succ_of_le->aa9,sub_zero->abe,succ_le_succ->abx,log2_lt->abJ
open Bool renaming and_eq_true->U3,false_ne_true->U4,not_eq_true'->WS,false_eq_true->Xc,and_self->XJ,eq_iff_iff->Yv,or_eq_true->Yx,and_eq_true_iff->aap
open PySem.Value renaming ref->U6,none->WU,type->Xl,int->Xq,str->Yg,bool->ZJ,float->abB,isStrOf->ab0
open PySem.PyData renaming keyHash->Ve,strOk->VI,canLayAll0->Wm,depthAll->Xg,list->Xp,leavesShort->XY,str->XZ,leavesShortAll->Yf,tuple->YL,eqv->YY,int->Y2,showableAll->Y3,hasDictAll->Zh,shown_fits_bulk->ZZ,bulkAll->aay,canLay0->aaz,depth->abk,bulk->abK,showable->abO
open PyProof.Rows renaming slot_tuple_getitem->Vv,callWith_type1->VN,seqObj->Xz,joinOk_of_weight->Ys,canLayAll_strs'->YB,StrsAre->YG,envOfC->YT,AllBare->Y8,sortedS->Ze,listUpdate_at->Zq,subscriptTail_builtinR->ZO,sortedHeap->ZV,entry_list_sort->Z6,slot_list_sort->aah,args_list_sort->aai,isStrOf->aaE,entry_tuple_getitem->aaF,Constant_none->aaM,sortedAll_old->aaP,args_tuple_getitem->aaU,IntsAre->aa6,plain_sorted->aba,entry_sorted->abb,args_sorted1->abc,sortedAll_at->abd,SortKind->abf,listItems_at->abg,sortedAll->abv,kind_sorted->abF,seqEpoch_at->abH
open Option.some renaming inj->Vx,injEq->X8
open Array renaming getD_eq_getD_getElem?->VA,getElem?_eq_getElem->Wo,length_toList->WB,append_assoc->aaS,toList_inj->abu,toList->ab3
open Int renaming toNat_natCast->VD,eq_ofNat_of_zero_le->We,emod_nonneg->Wn,emod_lt_of_pos->WK,zero_add->YJ,toNat->YO,toNat_of_nonneg->aaK
open PySem.Builtin.SmallTypes renaming nextOf->VF,ownedTupleIsFree->XM,ownedTupleHandOut->aaJ
open PySem.AutoSeq1 renaming wpAny_loadPart'->VL
open Sum renaming inr->VY,inl->abQ
open PySem.Builtin.Tuple renaming tupleExact->V3,tupleItemsOf->YU,tupleTooMany->Y0
open PySem.F renaming slot_tuple_iterator_next->Wl,slot_tuple_mul->WE,slot_zip_next->Xk,args_tuple_add_2->XH,args_tuple_mul_2->XN,args_tuple_iterator_next_1->XX,entry_tuple_add->X0,entry_tuple_mul->X4,entry_tuple_iterator_next->X5,slot_tuple_add->X7,slot_dict_get->Ye,slot_dict_getitem->Y5,slot_str_eq_refl->Zp,args_dict_get_3->Zy,slot_tuple_rmul->ZD,args_zip_next_1->ZG,entry_dict_get->ZU,entry_zip_next->ZX,slot_int_rmul->aae,sub_str_dict->aas,slot_dict_eq->aat
open False renaming elim->Wz
open True renaming intro->WI
open PySem.Builtin.Slice renaming slicePlaces->WL,sliceAdjust->Xu
open PySem.Obj renaming mapSeq->WV,data_mapFields->aa0
open PySem.NameKind renaming free->WW,cell->WX
open Ne renaming symm->W2
open PySem.Builtin.Str renaming occurrences->W5
open ForInStep renaming yield->Xd
open PySem.Calls renaming call_function_entry->Xv,spliced_cons->XW,Name_function_global->YQ,spliced_nil->Za,callWith_builtin->ZR,evalArgs_plain->aak
open PySem.Paired renaming length->XC,snoc->ab7
open List.Nodup renaming length_le_of_subset->Yj
open PySem.Builtin.List renaming listFitsIndex->Y1,listTooLong->Zm
open PySem.Builtin.Dict renaming selfAndRest->Zo,updateFrom->ZC
open PySem.Builtin.Range renaming rangeSize->Zv
open And renaming intro->ZA
open PySem.Txt renaming join->ZI
open PySem.Heap.DictOf renaming new->Z4
open PySem.Around renaming under_plainId->aao
open Or renaming inr->aaq,inl->abq
open Std.Legacy.Range renaming forIn_eq_forIn_range'->aax
open PySem.Heap.SameBut renaming update->aaI
open PySem.SeqAt.EqAt renaming int_str->aaQ,str_int->aaR,str_str->aaW
open Char renaming toNat->aa2
open List.cons renaming injEq->abN
open List.Perm renaming refl->abY
open Exists renaming intro->ab5
open PySem.IsRange renaming new->ab6
open PySem.Heap.IsSliceOf renaming new->ab9
set_option genSizeOf false
set_option compiler.extract_closed false
set_option bootstrap.genMatcherCode false
namespace PySem.W.Fast
def tw4999461959978614866:=0
def tw17639039446195154241:=0
def tw16595281951900766745:=0
def tw12349977819136407450:=0
def tw9647403640635914942:=0
def tw7573487268104940494:=0
def tw13818231877291347856:=0
def tw8727342230312129091:=0
def tw6981095263040640894:=0
def tw4208009460705063268:=0
def tw13255006757913841364:=0
def tw3997250531372559009:=0
def tw12701412196180216851:=0
def tw16294897807041994553:=0
def tw10617155088158188133:=0
def tw17396792416336418656:=0
def tw13701393948124426555:=0
def tw12120222424217662006:=0
def tw10319501600649256494:=0
def tw7269093398222037979:=0
def tw6228400667196829129:=0
def tw7040742434577751636:=0
def tw9597532869280365726:=0
def tw15616222191208878981:=0
def tw3667817241765546425:=0
def tw10279798309326282034:=0
def tw8141655205866407249:=0
def tw2082150180983698944:=0
def tw4971128199095027111:=0
def tw13368497035562323739:=0
def tw15626501353065375511:=0
def tw9211644809668826632:=0
def tw6767059293846994265:=0
def tw9154969729221943587:=0
def tw3837684081671176734:=0
def tw6961493576390686525:=0
def tw6848193578457280535:=0
def tw12413344626052200311:=0
def tw7037449637110587406:=0
def tw3883304128000449847:=0
def tw8951710537514762129:=0
def tw17088993998249207243:=0
def tw13154064322720180440:=0
def tw7731312538100055518:=0
def tw962084713687660907:=0
def tw7203277345852471443:=0
def tw6922851311594269328:=0
def tw3242976808335082724:=0
def tw16363638054372041090:=0
def tw9716263546774040778:=0
def tw15875058074569214660:=0
def tw9425233492530544926:=0
def tw16317194303640881932:=0
def tw17351638289867485835:=0
def tw8173427828215501348:=0
def tw17081159195518132313:=0
def tw9543881348045588399:=0
def tw8589570032992940144:=0
def tw13117643529443285286:=0
def tw16585468668451173263:=0
def tw16345912890688651320:=0
def tw13652292753943259249:=0
def tw10010326398846534494:=0
def tw17834333554709588911:=0
def tw13303983467973751913:=0
def tw7676476014091441873:=0
def tw17256492815129738369:=0
def tw5876322107502232602:=0
def tw5995793628770749298:=0
def tw9278823116891516228:=0
def tw10166272577903609064:=0
def tw15826935719407541434:=0
def tw8438212430238357725:=0
def tw7846293440105236581:=0
def tw9034402383660097633:=0
def tw10039990431355992886:=0
def tw12770336189227331096:=0
def tw1410210683168637621:=0
def tw1151778247523567905:=0
def tw16938074814265825283:=0
def tw4092690464956764015:=0
def tw3240251819607644838:=0
def tw10601404292595604780:=0
def tw2242339089735239868:=0
def tw4679136995291833604:=0
def tw12999955236172074912:=0
def tw15510734858730806203:=0
def tw16253526651969325556:=0
def tw6726343715825215636:=0
def tw15036181183229384401:=0
def tw9618865952300661400:=0
def tw4502666506636293828:=0
def tw2749902454424854600:=0
def tw9396109908766246938:=0
def tw3972144846420929345:=0
def tw14712187488905824653:=0
def tw1390132617852792890:=0
def tw709994737344987943:=0
def tw14857270044008090352:=0
def tw2962849224021569861:=0
def tw9814789288374913702:=0
def tw9557224055133926817:=0
def tw3627833734969176601:=0
def tw3894446083881807381:=0
def tw5298978790911668774:=0
def tw7910986507040086831:=0
def tw4159088378892346067:=0
def tw16268188661886478425:=0
def tw84687312438922750:=0
def tw295335218094272348:=0
def tw18044327317340098447:=0
def tw18345385479972494123:=0
def tw5090684270550388778:=0
def tw12310059908034019834:=0
def tw4719683894732215898:=0
def tw4039700511629186998:=0
def tw2004029595256591525:=0
def tw11628386352084838041:=0
def tw5099522551462433012:=0
def tw13893159301342824967:=0
def tw12837949355558014921:=0
def tw18330690153424734863:=0
def tw14856169306962968560:=0
def tw17039999868362411658:=0
def tw13441715671185815773:=0
def tw9903896926664232197:=0
def tw10403841400721830601:=0
def tw11220579550364548337:=0
def tw16728235327732718639:=0
def tw17445377536056626964:=0
def tw2003802655539720566:=0
def tw16727745763714518009:=0
def tw3344757953625740372:=0
def tw1103219189104907392:=0
def tw13068997172777655350:=0
def tw11449886373334677462:=0
def tw9326115903563344979:=0
def tw1848357119350656923:=0
def tw12790536551584023712:=0
def tw5472642140914400054:=0
def tw1843172501267963295:=0
def tw5700123938319896051:=0
def tw9083217938200952603:=0
def tw16495501239981138648:=0
def tw15702492377714376323:=0
def tw5814612904602664473:=0
def tw7672871574866636570:=0
def tw10240632878979661811:=0
def tw5499372630753554749:=0
def tw2180842388483107915:=0
def tw4576935312207679614:=0
def tw12738468566126698550:=0
def tw10153812262447072361:=0
def tw8323054989912606363:=0
def tw11550105361008499244:=0
def tw6795414876493934775:=0
def tw11128364877574976247:=0
def tw13169782033251494084:=0
def tw19313847019580665:=0
def tw4567693568596158385:=0
def tw17336204202614833620:=0
def tw958033947046909935:=0
def tw8103078738841331240:=0
def tw3786472483315492232:=0
def tw4981702536186022586:=0
def tw10860726580094291546:=0
def tw6900423772223721976:=0
def tw11130495706656760491:=0
def tw9391124859367118237:=0
def tw17116546688766611536:=0
def tw18013660295570221484:=0
def tw2831356689699884879:=0
def tw15792638229614244008:=0
def tw129824456773842392:=0
def tw17863192910248848251:=0
def tw8421256192866077831:=0
def tw2189845776066839389:=0
def tw13604013605502990556:=0
def tw3500715168799184413:=0
def tw10871197145068707771:=0
def tw3828424785652607622:=0
def tw4594886392926736677:=0
def tw10831610785773558928:=0
def tw11291013621857703328:=0
def tw3434971837510719045:=0
def tw16575733590041858922:=0
def tw17714583641979131940:=0
def tw3638423962573331743:=0
def tw9674446670595638919:=0
def tw14692127353594882957:=0
def tw13689031856598120538:=0
def tw11416636933353549720:=0
def tw16797543043255560108:=0
def tw13568203442259856016:=0
def tw15828768259485031295:=0
def tw13039747768055444064:=0
def tw6211551896632110738:=0
def tw15137109871988346143:=0
def tw1776089971150264997:=0
def tw15818343749555798941:=0
def tw16550575887711930131:=0
def tw1767894736390807522:=0
def tw13336863038731757044:=0
def tw1851179707910663128:=0
def tw17551678459813497412:=0
def tw17184207386494195049:=0
def tw4514022771125909572:=0
def tw2553939753390867717:=0
def tw10339518282232051612:=0
def tw5637717123303431792:=0
def tw1423273568759360103:=0
def tw1534837979133792617:=0
def tw4684492888959460932:=0
def tw2046315716148065017:=0
def tw615435820762943060:=0
def tw17251558866108708198:=0
def tw9104915145868656390:=0
def tw7708947061686229682:=0
def tw16211948995411268435:=0
def tw16409944709516747602:=0
def tw8996018358914653995:=0
def tw6900226849525184135:=0
def tw9431489599517037900:=0
def tw15881321021789183320:=0
def tw243814930271704354:=0
def tw9956901168783301163:=0
def tw4372864291643703477:=0
def tw30128485104149634:=0
def tw7257241036792357850:=0
def tw6776867824956511241:=0
def tw4954631964527490032:=0
def tw6392412395524554546:=0
def tw5493391866286412871:=0
def tw3145825334285938086:=0
def tw10013097304156132831:=0
def tw15504361725611848313:=0
def tw16889562755254916724:=0
def tw11470325813592883761:=0
def tw15872114684213097208:=0
def tw16295512473613656540:=0
def tw16714728246501409460:=0
def tw352959725460643966:=0
def tw7844932776798110663:=0
def tw5435142488769231871:=0
def tw12336405118829757472:=0
def tw18435613846831060397:=0
def tw11503239168478342023:=0
def tw4101945601350618819:=0
def tw15889536230134750647:=0
def tw11319361948979774266:=0
def tw3879199550199808934:=0
def tw6329509661881580091:=0
def tw4589445242558653148:=0
def tw11423231178508825527:=0
def tw10514961627538226009:=0
def tw10414656857186687972:=0
def tw10928753022021031582:=0
def tw13415259988616041925:=0
def tw12349403302471677146:=0
def tw1610916908514522108:=0
def tw4664324046480242826:=0
def tw2604638562085398152:=0
def tw14596620782443287913:=0
def tw7101541136116714168:=0
def tw16721876702417237061:=0
def tw17410768672783147420:=0
def tw14577164059432994245:=0
def tw13530649625565043800:=0
def tw3684906260923665036:=0
def tw3634904858291452407:=0
def tw15720306713262637369:=0
def tw13274722362186799936:=0
def tw7809801411476275115:=0
def tw1004954563625358144:=0
def tw10408644140628741824:=0
def tw6464994881425620586:=0
def tw6329434381594120001:=0
def tw11614298371054460375:=0
def tw8751370031116815797:=0
def tw16668789010212175816:=0
def tw5795162394071168863:=0
def tw9742962119061216427:=0
def tw16757477021367539985:=0
def tw12523059447183340086:=0
def tw16054932901119216483:=0
def tw17340923733904796089:=0
def tw11710064969088652815:=0
def tw10759069587782345713:=0
def tw6750703343594283777:=0
def tw949960376415814532:=0
def tw4840557169734724395:=0
def tw10242568689695988973:=0
def tw1947456451488895833:=0
def tw16816716659534528076:=0
def tw2940989261561816978:=0
def tw9063353387884301104:=0
def tw6084665540847180853:=0
def tw8088934426408592466:=0
def tw10221381728395818:=0
end PySem.W.Fast
noncomputable section
set_option Elab.async false
set_option linter.all false
set_option maxRecDepth 100000
section
namespace L2
open PySem PySem.Spec PyProof.Rows
abbrev Key:=Sum Int Str
noncomputable def nL:Key->UH->Bool
 | .inl k,v=>Value.isInt k v
 | .inr x,v=>ab0 x v
noncomputable def RJ(w:VE):Key->Int
 | .inl k=>hashInt k
 | .inr x=>hashStr w x
theorem bp: ∀{k v},nL k v=true->(∃ i t,k=abQ i/\v=Xq i t)\/(∃ x t,k=VY x/\v=Yg x t)
 | .inl i,v,h=>by
  obtain⟨t,e⟩:=Value.isInt_shape (k:=i) (v:=v) h;exact .inl ⟨i,t,rfl,e⟩
 | .inr x,v,h=>by
  obtain⟨t,e⟩:=Value.isStrOf_shape (x:=x) (v:=v) h;exact .inr ⟨x,t,rfl,e⟩
theorem yn i t:nL (.inl i) (.int i t)=true:=by simp[nL,Value.isInt]
theorem lb x t:nL (.inr x) (.str x t)=true:=by simp[nL,ab0]
theorem Kb a b:decide ((abQ a:Key)=abQ b)=(a == b):=by
 by_cases e:a=b
 . subst e;simp
 . simp_all
theorem Mz a b:decide ((VY a:Key)=VY b)=decide (a=b):=by
 simp_all
theorem Ko(a:Int)(b:Str):decide ((abQ a)=VY b)=false:=decide_eq_false (λq=>by cases q)
theorem L3(a:Str)(b:Int):decide ((VY a)=abQ b)=false:=decide_eq_false (λq=>by cases q)
def aJ prog w:PySem.KeyKind prog w Key where
 is:=nL
 hash:=RJ w
 inj:=λv a b ha hb=>by
  rcases bp ha with⟨i,t,rfl,rfl⟩ | ⟨x,t,rfl,rfl⟩
  . rcases bp hb with⟨j,u,rfl,e⟩ | ⟨y,u,rfl,e⟩
    . injection e with e1 _;rw[e1]
    . nomatch e
  . rcases bp hb with⟨j,u,rfl,e⟩ | ⟨y,u,rfl,e⟩
    . nomatch e
    . injection e with e1 _;rw[e1]
 byValue:=λk v h=>by
  rcases bp h with⟨i,t,rfl,rfl⟩ | ⟨x,t,rfl,rfl⟩<;>rfl
 pyHash:=λhv h=>by
  rcases bp hv with⟨i,t,rfl,rfl⟩ | ⟨x,t,rfl,rfl⟩
  . exact wpAny_pyHash_int h
  . exact wpAny_pyHash_str h
 eqBool:=λhu hv h=>by
  rcases bp hu with⟨i,t,rfl,rfl⟩ | ⟨x,t,rfl,rfl⟩
  . rcases bp hv with⟨j,u,rfl,rfl⟩ | ⟨y,u,rfl,rfl⟩
    . rw[Kb] at h;exact wpAny_eqBool_int h
    . rw[Ko] at h;exact aaQ i t y u _ _ _ _ h
  . rcases bp hv with⟨j,u,rfl,rfl⟩ | ⟨y,u,rfl,rfl⟩
    . rw[L3] at h;exact aaR x t j u _ _ _ _ h
    . rw[Mz] at h;exact wpAny_eqBool_str h
 «strs» :=λk x t v h=>by
  rcases bp h with⟨i,u,rfl,e⟩ | ⟨y,u,rfl,e⟩
  . nomatch e
  . injection e with e1 _;subst e1;cases v<;>rfl
theorem tT prog w i t:(aJ prog w).is (.inl i) (.int i t)=true:=yn i t
theorem tU prog w x t:(aJ prog w).is (.inr x) (.str x t)=true:=lb x t
inductive V where
 | non | bl (b:Bool) | int (i:Int) | str (x:Str) | byt (b:Array UInt8) | flt (b:UInt64) | ref (a:U0) | ty (n:String)
 deriving DecidableEq
def RelV:V->UH->Prop
 | .non,u=>u=WU
 | .bl b,u=>u=ZJ b
 | .int i,u=> ∃ t,u=Xq i t
 | .str x,u=> ∃ t,u=Yg x t
 | .byt b,u=> ∃ t,u=Value.bytes b t
 | .flt b,u=> ∃ t,u=abB b t
 | .ref a,u=>u=U6 a
 | .ty n,u=>u=Xl n
abbrev Vals:List V->List UH->Prop:=VH RelV
theorem Vals.length(r:Vals xs us):xs.length=us.length:=XC r
theorem Vals.get: ∀{xs us}{i:Nat}{x},Vals xs us->xs[i]?=fv x-> ∃ u,us[i]?=fv u/\RelV x u
 | _,_,_,_,.nil,e=>by simp at e
 | _,_,0,_,.cons r _,e=>by simp at e;subst e;exact⟨_,rfl,r⟩
 | _,_,i+1,x,.cons _ t,e=>by
  obtain⟨u,h1,h2⟩:=Vals.get (i:=i) (x:=x) t (by simpa using e);exact⟨u,by simpa using h1,h2⟩
theorem Vals.set(r:RelV x u): ∀{xs us} i,Vals xs us->Vals (xs.set i x) (us.set i u)
 | _,_,_,.nil=> .nil
 | _,_,0,.cons _ t=> .cons r t
 | _,_,i+1,.cons q t=> .cons q (Vals.set r i t)
theorem Vals.append: ∀{xs ys us ws},Vals xs us->Vals ys ws->Vals (xs++ys) (us++ws)
 | _,_,_,_,.nil,s=>s
 | _,_,_,_,.cons r t,s=> .cons r (Vals.append t s)
theorem Vals.take: ∀{xs us} n,Vals xs us->Vals (xs.take n) (us.take n)
 | _,_,0,_=> .nil
 | _,_,_+1,.nil=> .nil
 | _,_,n+1,.cons r t=> .cons r (Vals.take n t)
theorem Vals.drop: ∀{xs us} n,Vals xs us->Vals (xs.drop n) (us.drop n)
 | _,_,0,r=>r
 | _,_,_+1,.nil=> .nil
 | _,_,n+1,.cons _ t=>Vals.drop n t
def kb:Option V->Option UH->Prop
 | some v,fv u=>RelV v u
 | none,UB=>True
 | _,_=>False
def KV{κ}:=VH λ(p: κ × V) (q: κ × UH)=>p.1=q.1/\RelV p.2 q.2
noncomputable def kV:Key->V
 | .inl i=> .int i
 | .inr x=> .str x
inductive HO where
  | lst (xs:List V)
  | tup (xs:List V)
  | dK (kvs:List (Key × V)) | dT (kvs:List (List Key × V))
  | set (S:Int->Bool) (n:Nat)
  | ins (C dx:U0) (fs:List (Str × V))
  | own (x:U0)
  | xd (fs:List (Str × V))
  | met (f x:U0)
  | Aa (lo hi:Int)
  | jx (o:Obj) (u:HO)
  | tbl (ps:Array UH)
  | ext (φ :VO->Prop)
abbrev Hp:=U0->Option HO
noncomputable def upd(H:Hp)(a:U0)(o:HO):Hp:=λb=>if b=a then fv o else H b
theorem a9:upd H a o a=fv o:=by unfold upd;rw[if_pos rfl]
theorem ax(h:b≠a):upd H a o b=H b:=by unfold upd;rw[if_neg h]
theorem qj{H:Hp}{a b:U0}{o u:HO}(h:H a=fv o)(h':H b=fv u)(d:o≠u):a≠b:=by
 intro e;subst e;rw[h] at h';exact d (Vx h')
theorem ay{H:Hp}{a b:U0}{o:HO}(h:H a=fv o)(h':H b=UB):a≠b:=by
 intro e;subst e;rw[h] at h';cases h'
def oQ(h:VO) a (items:Array UH):= ∃ o,h.get? a=fv o/\o.cls= .type "tuple" /\ ∃ n,o.data= .seq items n/\o.dict=UB
theorem oQ.tup{h a items}(x:oQ h a items):IsTup h a items:=by obtain⟨o,e,c,n,d,_⟩:=x;exact⟨o,e,c,n,d⟩
theorem oQ.new(h:VO) items:oQ (h.push { cls:= .type "tuple",data:= .seq items}) h.objs.size items:=⟨_,UY _ rfl,rfl,_,rfl,rfl⟩
section
variable(P:Vl)(w:VE)
def aW(H:Hp)(h:VO)(a:U0):HO->Prop
 | .lst xs=>xs.length<=UK/\ ∃(aj:List UH)(n:Nat),Vals xs aj/\h.get? a=fv { cls:= .type "list",data:= .seq aj.toArray n}
 | .tup xs=>xs.length<=UK/\ ∃ aj ,Vals xs aj/\oQ h a aj.toArray
 | .dK kvs=>kvs.length<=UK/\(a == VP)=false/\ ∃ vs,KV kvs vs/\h.DictOf (aJ P w) a vs
 | .dT kvs=>kvs.length<=UK/\(a == VP)=false/\ ∃ xs ,
   VH (λ(p) (q)=>p.1=q.1/\H q.2.1=fv (.tup (p.1.map kV))/\RelV p.2 q.2.2) kvs xs /\
   ∃ o es ep,h.get? a=fv o/\o.ExactDict/\o.data= .dict es ep/\es.toList=xs.map (entryOfKey (Zu (aJ P w)))/\(xs.map (·.1)).Nodup
 | .set S n=>h.SetOf (intKind P w) a S n
 | .ins C dx fs=>H dx=fv (.own a)/\fs.length<=1000/\dx≠a/\h.get? a=fv (WM C dx) /\
   ∃ mA,h.Ns1 dx mA/\(∀ f,kb (fs.lookup f) (mA f))/\ab2 mA (fs.map (·.1))
 | .own _=> ∃ o,h.get? a=fv o
 | .xd fs=> ∃ mA,h.Ns1 a mA/\ ∀ f,kb (fs.lookup f) (mA f)
 | .Aa lo hi=> ∃ t u v,h.get? a=fv { cls:= .type "range",data:= .fields #[.int lo t,.int hi u,.int 1 v]}
 | .jx o u=>h.get? a=fv o∧aW H h a u
 | .tbl ps=>h.get? a=fv { cls:= .none,data:= .fields ps}
 | .met f x=>h.get? a=fv (PySem.W.methodObj (.ref f) (.ref x))
 | .ext φ => φ h∧(∃ o,h.get? a=fv o)∧ ∀ h1 h2 , φ h1->(∀ o,h1.get? a=fv o->h2.get? a=fv o)-> φ h2
def jl H h:= ∀ a o,H a=fv o->aW P w H h a o
end
section
variable{P:Vl}{w:VE}{H H':Hp}{h h':VO}{a:U0}{o:HO}
theorem aW.lt(x:aW P w H h a o):a < h.objs.size:=by
 cases o with
 | lst xs=>obtain⟨_,_,_,_,e⟩:=x;exact UT e
 | tup xs=>obtain⟨_,_,_,p⟩:=x;exact p.tup.lt
 | dK kvs=>obtain⟨_,_,_,_,o,_,_,e,_⟩:=x;exact UT e
 | dT kvs=>obtain⟨_,_,_,_,o,_,_,e,_⟩:=x;exact UT e
 | set S n=>obtain⟨o,_,_,_,e,_⟩:=x;exact UT e
 | ins C dx fs=>obtain⟨_,_,_,e,_⟩:=x;exact UT e
 | own y=>obtain⟨_,e⟩:=x;exact UT e
 | xd fs=>obtain⟨_,⟨_,_,_,e,_⟩,_⟩:=x;exact UT e
 | Aa lo hi=>obtain⟨_,_,_,e⟩:=x;exact UT e
 | jx ob u=>obtain⟨e,_⟩:=x;exact UT e
 | tbl ps=>exact UT (show h.get? a=fv _ from x)
 | met f y=>exact UT (show h.get? a=fv _ from x)
 | ext φ =>obtain⟨_,⟨_,e⟩,_⟩:=x;exact UT e
theorem Paired.zE: ∀{l₁ l₂},VH F l₁ l₂ ->(∀ a b,F a b->G a b)->VH G l₁ l₂
 | _,_,.nil,_=> .nil
 | _,_,.cons r t,f=> .cons (f _ _ r) (Paired.zE t f)
theorem aW.qQ(x:aW P w H h a o)(k: ∀ b u,(b=a\/H b=fv (.own a))->h.get? b=fv u->h'.get? b=fv u)
  (ho: ∀ b,H b=fv (.own a)->H' b=fv (.own a)) (ht: ∀ b xs,H b=fv (.tup xs)->H' b=fv (.tup xs)):aW P w H' h' a o:=by
 induction o with
 | lst xs=>obtain⟨z,aj,n,r,e⟩:=x;exact⟨z,aj,n,r,k _ _ (.inl rfl) e⟩
 | tup xs=>obtain⟨z,aj,r,ob,e,c⟩:=x;exact⟨z,aj,r,ob,k _ _ (.inl rfl) e,c⟩
 | dK kvs=>obtain⟨z,y,vs,r,ob,es,ep,e,c⟩:=x;exact⟨z,y,vs,r,ob,es,ep,k _ _ (.inl rfl) e,c⟩
 | dT kvs =>
  obtain⟨z,y,xs,r,ob,es,ep,e,c⟩:=x
  exact⟨z,y,xs,Paired.zE r λp q z=>⟨z.1,ht _ _ z.2.1,z.2.2⟩,ob,es,ep,k _ _ (.inl rfl) e,c⟩
 | set S n=>obtain⟨ob,es,ep,t,e,c⟩:=x;exact⟨ob,es,ep,t,k _ _ (.inl rfl) e,c⟩
 | ins C dx fs =>
  obtain⟨d,z,ne,e,mA,⟨od,es,ep,e2,c⟩,r⟩:=x
  exact⟨ho _ d,z,ne,k _ _ (.inl rfl) e,mA,⟨od,es,ep,k _ _ (.inr d) e2,c⟩,r⟩
 | own y=>obtain⟨ob,e⟩:=x;exact⟨ob,k _ _ (.inl rfl) e⟩
 | xd fs=>obtain⟨mA,⟨od,es,ep,e,c⟩,r⟩:=x;exact⟨mA,⟨od,es,ep,k _ _ (.inl rfl) e,c⟩,r⟩
 | Aa lo hi=>obtain⟨t,u,v,e⟩:=x;exact⟨t,u,v,k _ _ (.inl rfl) e⟩
 | jx ob u ih=>obtain⟨e,q⟩:=x;exact⟨k _ _ (.inl rfl) e,ih q⟩
 | tbl ps =>
  have e:=x
  exact k a _ (.inl rfl) e
 | met f y =>
  have e:=x
  exact k a _ (.inl rfl) e
 | ext φ =>obtain⟨p,⟨o,e⟩,st⟩:=x;exact⟨st _ _ p λo q=>k _ _ (.inl rfl) q,⟨o,k _ _ (.inl rfl) e⟩,st⟩
theorem jl.lt(x:jl P w H h)(e:H a=fv o):a < h.objs.size:=(x a o e).lt
theorem jl.fresh(x:jl P w H h)(e:h.objs.size<=a):H a=UB:=by
 cases q:H a with
 | none=>rfl
 | some u=>exact absurd (US (x.lt q) e) (Vr _)
theorem jl.kept(x:jl P w H h)(k: ∀ b u,h.get? b=fv u->h'.get? b=fv u):jl P w H h':=λa o e =>
 (x a o e).qQ (λb u _ q=>k b u q) (λ_ q=>q) λ_ _ q=>q
theorem jl.laid(x:jl P w H h)(k: ∀ b u,h.get? b=fv u->h'.get? b=fv u)(hp:h.objs.size<=a)(new:aW P w (upd H a o) h' a o):jl P w (upd H a o) h':=λb u e=>by
 have hn:=x.fresh hp;by_cases hb:b=a
 . subst hb;rw[a9] at e;cases e;exact new
 . rw[ax hb] at e;exact(x b u e).qQ (λc v _ q=>k c v q) (λc q=>by rw[ax (ay q hn)];exact q) λc xs q=>by rw[ax (ay q hn)];exact q
end
def Rd(H:Hp) a u:=H a=fv u\/ ∃ o,H a=fv (.jx o u)
theorem Rd.ok(r:Rd H a u)(x:jl P w H h):aW P w H h a u:=by
 rcases r with r | ⟨o,r⟩
 . exact x a u r
 . obtain⟨_,q⟩:=x a _ r;exact q
def OY:Option HO->Prop
 | some (.lst _)=>True
 | some (.dK _)=>True
 | some (.dT _)=>True
 | some (.set _ _)=>True
 | some (.ins _ _ _)=>True
 | some (.ext _)=>True
 | _=>False
section
variable{P:Vl}{w:VE}{H:Hp}{h h':VO}{x e:U0}{o':HO}
theorem jl.write(ok:jl P w H h)(mu:OY (H x))(he:e=x\/H e=fv (.own x))(k: ∀ b u,b≠e->h.get? b=fv u->h'.get? b=fv u)(heo: ∃ u,h'.get? e=fv u)
  (new:aW P w (upd H x o') h' x o'):jl P w (upd H x o') h':=λb u q=>by
 have nown: ∀ c y,H c=fv (.own y)->c≠x:=λc y r z=>by subst z;rw[r] at mu;exact mu
 have ntup: ∀ c xs,H c=fv (.tup xs)->c≠x:=λc xs r z=>by subst z;rw[r] at mu;exact mu
 by_cases hb:b=x
 . subst hb;rw[a9] at q;cases q;exact new
 . rw[ax hb] at q;by_cases hbe:b=e
   . have q':H b=fv (.own x):=by
      rcases he with z | z
      . exact absurd (hbe.trans z) hb
      . rw[hbe];exact z
     rw[q] at q';cases q';obtain⟨v,hv⟩:=heo;exact⟨v,by rw[hbe];exact hv⟩
   . refine(ok b u q).qQ (λc v hc r=>k c v ?_ r) (λc r=>by rw[ax (nown c b r)];exact r) λc xs r=>by rw[ax (ntup c xs r)];exact r
     rcases hc with rfl | hc
     . exact hbe
     . rintro rfl;rcases he with z | z
       . exact nown c b hc z
       . simp_all
end
structure Un(fs ex:List U0)(H H':Hp)(h h':VO):Prop where
 keep: ∀ b o,h.get? b=fv o->H b=UB->b ∉ fs->b ∉ ex->h'.get? b=fv o
 slot: ∀ b o,h.get? b=fv o->H b=UB->b∈fs->b ∉ ex-> ∃ sl,h'.get? b=fv { o with slots:=sl}
 free: ∀ b o,h.get? b=fv o->H b=UB->b ∉ ex->H' b=UB
 there: ∀ b o,h.get? b=fv o->b ∉ ex-> ∃ o',h'.get? b=fv o'
 kG: ∀ b xs,H b=fv (.tup xs)->H' b=fv (.tup xs)
 ku: ∀ b o u,H b=fv (.jx o u)->H' b=fv (.jx o u)
 lU: ∀ b ps,H b=fv (.tbl ps)-> ∃ more,H' b=fv (.tbl (ps++more))
section
variable{fs fs' ex ex':List U0}{H H1 H2:Hp}{h h1 h2 h':VO}{a x e:U0}{o:HO}
theorem Un.any(u:Un fs ex H H1 h h1)(q:h.get? b=fv ob)(n:H b=UB)(hx:b ∉ ex): ∃ sl,h1.get? b=fv { ob with slots:=sl}:=by
 by_cases hb:b∈fs
 . exact u.slot b ob q n hb hx
 . exact⟨ob.slots,u.keep b ob q n hb hx⟩
theorem Un.trans(a:Un fs ex H H1 h h1)(b:Un fs ex H1 H2 h1 h2):Un fs ex H H2 h h2 where
 keep:=λc ob q n hc hx=>b.keep c ob (a.keep c ob q n hc hx) (a.free c ob q n hx) hc hx
 slot:=λc ob q n hc hx=>by
  obtain⟨sl,e1⟩:=a.slot c ob q n hc hx;obtain⟨sl',e2⟩:=b.slot c _ e1 (a.free c ob q n hx) hc hx;exact⟨sl',e2⟩
 free:=λc ob q n hx=>by
  obtain⟨o',e1⟩:=a.there c ob q hx;exact b.free c o' e1 (a.free c ob q n hx) hx
 there:=λc ob q hx=>by
  obtain⟨o',e1⟩:=a.there c ob q hx;exact b.there c o' e1 hx
 kG:=λc xs q=>b.kG c xs (a.kG c xs q)
 ku:=λc ob xs q=>b.ku c ob xs (a.ku c ob xs q)
 lU:=λc ps q=>by
  obtain⟨m1,e1⟩:=a.lU c ps q;obtain⟨m2,e2⟩:=b.lU c _ e1;exact⟨m1++m2,by rw[e2,aaS]⟩
theorem Un.kept(k: ∀ b u,h.get? b=fv u->h'.get? b=fv u):Un fs ex H H h h' :=
 ⟨λb ob q _ _ _=>k b ob q,λb ob q _ _ _=>⟨ob.slots,k b ob q⟩,λ_ _ _ n _=>n,λb ob q _=>⟨ob,k b ob q⟩,λ_ _ q=>q,λ_ _ _ q=>q,λ_ ps q=>⟨#[],by simp_all⟩⟩
theorem Un.refl:Un fs ex H H h h:=Un.kept λ_ _ q=>q
theorem Un.laid(k: ∀ b u,h.get? b=fv u->h'.get? b=fv u)(hp:h.objs.size<=a)(hn:H a=UB):Un fs ex H (upd H a o) h h' where
 keep:=λb u q _ _ _=>k b u q
 slot:=λb u q _ _ _=>⟨u.slots,k b u q⟩
 free:=λb u q n _=>by rw[ax (U7 (US (UT q) hp))];exact n
 there:=λb u q _=>⟨u,k b u q⟩
 kG:=λb xs q=>by rw[ax (ay q hn)];exact q
 ku:=λb u xs q=>by rw[ax (ay q hn)];exact q
 lU:=λb ps q=>⟨#[],by rw[ax (ay q hn),q];simp⟩
theorem Un.write(mu:OY (H x))(he:e=x\/H e=fv (.own x))(k: ∀ b u,b≠e->h.get? b=fv u->h'.get? b=fv u)(heo: ∃ u,h'.get? e=fv u):Un fs ex H (upd H x o) h h':=by
 have hx: ∀ b,H b=UB->b≠x:=λb n z=>by subst z;rw[n] at mu;exact mu
 have hb: ∀ b,H b=UB->b≠e:=λb n z=>by
  simp_all
 have hm: ∀ b u,H b=fv u-> ¬ OY (fv u)->b≠x:=λb u q nm z=>by simp_all
 refine⟨λb u q n _ _=>k b u (hb b n) q,λb u q n _ _=>⟨u.slots,k b u (hb b n) q⟩,λb u q n _=>by rw[ax (hx b n)];exact n,λb u q _=>?_,
  λb xs q=>by rw[ax (hm b _ q λz=>z)];exact q,λb u xs q=>by rw[ax (hm b _ q λz=>z)];exact q,λb ps q=>⟨#[],by rw[ax (hm b _ q λz=>z),q];simp⟩⟩
 by_cases hbe:b=e
 . simp_all
 . exact⟨u,k b u hbe q⟩
end
noncomputable def QU(h:VO)(H:Hp):=(Vq h.objs.size).filter λa=>(H a).isSome
def sW h H:=PySem.W.hideAll h (QU h H)
theorem yM h H:(sW h H).objs.size=h.objs.size:=PySem.W.hideAll_size _ _
theorem AJ{h:VO}{H:Hp}{b:U0}{o:Obj}(e:h.get? b=fv o)(n:H b=UB):(sW h H).get? b=fv o :=
 PySem.W.hideAll_get _ e λhm=>by
  have q:=(XQ.mp hm).2;rw[n] at q;simp at q
theorem FN(e:(sW h H).get? b=fv o):h.get? b=fv o/\H b=UB:=by
 have e':=PySem.W.of_hideAll (QU h H) e;refine⟨e',?_⟩;cases q:H b with
 | none=>rfl
 | some x =>
  have hm:b∈QU h H:=XQ.mpr ⟨W4.mpr (UT e'),by simp[q]⟩
  have z:(sW h H).get? b=UB:=PySem.W.hideAll_none (QU h H) hm
  rw[z] at e;cases e
noncomputable def Ee(g h:VO) L:=(Vq h.objs.size).filterMap λa=>if a=L\/(g.get? a).isSome=true then UB else(h.get? a).map λo=>(a,o)
def rest g h L d:=(Ee g h L).filter λp=>decide (p.1≠d)
structure Mod(K:UC)(mg:Str->Option UH)(base:VO):Prop where
 Sk:K.In base
 glob:base.Ns Vh mg
 blt: ∃ mb,base.Ns builtinsNs mb/\ ∀ x:Str,x≠ "__name__" ->mb x=VR x
 nolimit:base.NoLimit
structure Cx where
 prog:Vl
 w:VE
 K:UC
 mg:Str->Option UH
 base:VO
 A:Wf
 N:List Str
 s₀ :UM
 H₀ :Hp
 env:Env
 outer:List Env
 stack:List Env
 ex:List U0
 fn:Str->Bool
 calm:Bool
 pn:List (U0 × Obj)
 xe:UH->UM->Prop
noncomputable def zV(l:List Env):=l.filterMap (·.frame)
abbrev Cx.fs(X:Cx):List U0:=zV X.outer
def MV(sc:Y7) x:=sc.names.lookup x=fv .local\/sc.names.lookup x=fv .cell\/sc.names.lookup x=fv .free
def Loc(sc:Y7) x:=sc.names.lookup x=fv .local\/sc.names.lookup x=fv .cell
def Look(env:Env)(h:VO)(m:Str->Option UH) x (u:UH) :=
 (env.kindOf x=fv .local/\m x=fv u)\/((env.kindOf x=fv .cell\/env.kindOf x=fv .free)/\ ∃ c,env.cells.lookup x=fv c/\h.IsCell c (fv u))
structure Cx.Ok(X:Cx):Prop where
 mod:Mod X.K X.mg X.base
 kind:X.env.scope.kind= .function
 glob:X.env.globals=Vh
 blt:X.env.builtins=builtinsNs
 above:X.s₀.heap.objs.size<=X.env.locals
 inj: ∀ x y c,X.env.cells.lookup x=fv c->X.env.cells.lookup y=fv c->x=y
 has: ∀ x,(X.env.kindOf x=fv .cell\/X.env.kindOf x=fv .free)-> ∃ c,X.env.cells.lookup x=fv c
 M4: ∀ x c,X.fn x=true->X.env.cells.lookup x=fv c->X.s₀.heap.objs.size<=c
 hd:X.calm=true->X.A.handled=UB
 frames:X.A.frames=fv X.stack
 OI:X.stack=X.outer\/(X.stack=X.env::X.outer/\X.env.frame=fv X.env.locals)
 R5: ∀ b∈X.ex,b≠X.env.locals/\ ∀ x c,X.env.cells.lookup x=fv c->c≠b
 bs: ∀ b o,X.base.get? b=fv o->X.s₀.heap.get? b=fv o/\X.H₀ b=UB
 Dk:X.base.objs.size<=X.s₀.heap.objs.size
 yI: ∀ b o,X.base.get? b=fv o->b ∉ X.ex
 BY: ∀ b∈X.ex,b ∉ X.fs
 kA:X.s₀.heap.FunFrames X.base X.outer
 Hi: ∀ b∈X.fs,X.H₀ b=UB
structure Inv(X:Cx)(pins:List (U0 × Obj))(σ :List (Option V))(H:Hp)(s:UM):Prop where
 ok:X.Ok
 os:s.os=X.s₀.os
 bare:Y8 s.gens
 base:Un X.fs X.ex X.H₀ H X.s₀.heap s.heap
 loc: ∃ m,s.heap.Ns X.env.locals m/\ ∀(i:Nat)(x:Str)(v:V),X.N[i]?=fv x-> σ[i]?=fv (fv v)->MV X.env.scope x-> ∃ u,RelV v u/\Look X.env s.heap m x u
 cell: ∀ x c,X.env.cells.lookup x=fv c-> ∃ v,s.heap.IsCell c v
 free:H X.env.locals=UB
 iy: ∀ x c,X.env.cells.lookup x=fv c->H c=UB
 pin: ∀ p∈X.pn++pins,s.heap.get? p.1=fv p.2/\H p.1=UB/\p.1≠X.env.locals/\p.1 ∉ X.fs/\ ∀ v,p.2.data≠ .cell v
 bb:jl X.prog X.w H s.heap
 len: σ.length=X.N.length
section
variable{X:Cx}{pins:List (U0 × Obj)}{σ :List (Option V)}{H H':Hp}{s:UM}{h':VO}
theorem Cx.Ok.Sg(ok:X.Ok)(e:X.base.get? b=fv o):b ∉ X.fs:=λhb=>by
 have:=(ok.kA.mem hb).1;rw[e] at this;cases this
theorem Inv.bs(I:Inv X pins σ H s): ∀ b o,X.base.get? b=fv o->s.heap.get? b=fv o/\H b=UB:=λb o e =>
 ⟨I.base.keep b o (I.ok.bs b o e).1 (I.ok.bs b o e).2 (I.ok.Sg e) (I.ok.yI b o e),I.base.free b o (I.ok.bs b o e).1 (I.ok.bs b o e).2 (I.ok.yI b o e)⟩
theorem Inv.bk(I:Inv X pins σ H s): ∀ b o,X.base.get? b=fv o->s.heap.get? b=fv o:=λb o e=>(I.bs b o e).1
theorem Inv.mod(I:Inv X pins σ H s):Mod X.K X.mg X.base:=I.ok.mod
theorem Inv.ky(I:Inv X pins σ H s):X.K.In s.heap:=I.ok.mod.Sk.keeps I.bk
theorem Inv.nolimit(I:Inv X pins σ H s):s.heap.NoLimit:=I.ok.mod.nolimit.keeps I.bk
theorem Inv.fr(I:Inv X pins σ H s): ∃ m,Fr X.base X.env.locals s.heap m :=
 by obtain⟨m,hn,_⟩:=I.loc;exact⟨m,hn,I.bk,Va I.ok.Dk I.ok.above⟩
theorem Inv.lt(I:Inv X pins σ H s):X.env.locals < s.heap.objs.size:=by obtain⟨_,hn,_⟩:=I.loc;exact hn.lt
theorem Inv.sz(I:Inv X pins σ H s):X.s₀.heap.objs.size<=s.heap.objs.size:=Va I.ok.above (WO I.lt)
theorem Inv.OX(I:Inv X pins σ H s){a:U0}(h:s.heap.objs.size<=a):a ∉ X.fs:=λhb=>by
 obtain⟨_,o,ho,_⟩:=I.ok.kA.mem hb;exact absurd (US (UT ho) (Va I.sz h)) (Vr _)
theorem Inv.Jf(I:Inv X pins σ H s): ∀ x c,X.env.cells.lookup x=fv c->c≠X.env.locals:=λx c e z=>by
 obtain⟨v,o,ho,hd⟩:=I.cell x c e;obtain⟨m,⟨o',es,ep,ho',hd',_⟩,_⟩:=I.loc;rw[z,ho'] at ho;cases ho;rw[hd'] at hd;cases hd
theorem Inv.kA(I:Inv X pins σ H s):s.heap.FunFrames X.base X.outer:=by
 have all: ∀ l,(∀ b∈zV l,b∈X.fs)->X.s₀.heap.FunFrames X.base l->s.heap.FunFrames X.base l:=by
  intro l
  induction l with
  | nil=>intro _ _;trivial
  | cons env r ih =>
   intro hs hl
   obtain⟨hk,⟨L,o,hf,hn,ho,hd⟩,hr⟩:=hl
   have hL:=hs L (by unfold zV;rw[YC,hf];exact UX)
   obtain⟨sl,e⟩:=I.base.slot L o ho (I.ok.Hi L hL) hL λz=>I.ok.BY L z hL
   exact⟨hk,⟨L,_,hf,hn,e,hd⟩,ih (λb hb=>hs b (by unfold zV;rw[YC,hf];exact UZ _ hb)) hr⟩
 exact all X.outer (λ_ hb=>hb) I.ok.kA
theorem Inv.stack(I:Inv X pins σ H s):s.heap.FunFrames X.base X.stack:=by
 rcases I.ok.OI with e | ⟨e,hf⟩
 . rw[e];exact I.kA
 . rw[e];obtain⟨m,hn,_⟩:=I.loc;refine .cons (by rw[I.ok.kind];decide) hf hn ?_ I.kA;exact Wv (Va I.ok.Dk I.ok.above)
theorem Inv.k9(I:Inv X pins σ H s): ∀ b∈zV X.stack,b∈X.env.locals::X.fs:=λb hb=>by
 rcases I.ok.OI with e | ⟨e,hf⟩
 . rw[e] at hb;exact UZ _ hb
 . rw[e] at hb;unfold zV at hb;rw[YC,hf] at hb;exact hb
theorem Inv.xS(I:Inv X pins σ H s): ∀ b∈zV X.stack,H b=UB:=λb hb=>by
 rcases UW.mp (I.k9 b hb) with e | hb
 . rw[e];exact I.free
 . obtain⟨_,o,ho,_⟩:=I.ok.kA.mem hb;exact I.base.free b o ho (I.ok.Hi b hb) λz=>I.ok.BY b z hb
theorem Inv.step{ch:List U0}(I:Inv X pins σ H s)
  (hch: ∀ b∈ch,(b∈X.ex\/X.s₀.heap.objs.size<=b)/\b≠X.env.locals/\(∀ x c,X.env.cells.lookup x=fv c->c≠b)/\ ∀ p∈X.pn++pins,p.1≠b)
  (keep: ∀ b o,b≠X.env.locals->b ∉ X.fs->b ∉ ch->s.heap.get? b=fv o->H b=UB->h'.get? b=fv o)
  (slot: ∀ b o,b≠X.env.locals->b∈X.fs->b ∉ ch->s.heap.get? b=fv o->H b=UB-> ∃ sl,h'.get? b=fv { o with slots:=sl}) (free: ∀ b o,b ∉ ch->s.heap.get? b=fv o->H b=UB->H' b=UB)
  (there: ∀ b o,b ∉ ch->s.heap.get? b=fv o-> ∃ o',h'.get? b=fv o')
  (kG: ∀ b xs,H b=fv (.tup xs)->H' b=fv (.tup xs)) (ku: ∀ b o u,H b=fv (.jx o u)->H' b=fv (.jx o u)) (lU: ∀ b ps,H b=fv (.tbl ps)-> ∃ more,H' b=fv (.tbl (ps++more)))
  (ns: ∀ m,s.heap.Ns X.env.locals m->h'.Ns X.env.locals m) (bb:jl X.prog X.w H' h') (hg:Y8 g') :
  Inv X pins σ H' { s with heap:=h',gens:=g',drawn:=d',toks:=t'}:=by
 have neL: ∀ b o,X.s₀.heap.get? b=fv o->b≠X.env.locals:=λb o e=>U7 (US (UT e) I.ok.above);have neC: ∀ b o,X.s₀.heap.get? b=fv o->b ∉ X.ex->b ∉ ch:=λb o e hx hb=>by
  rcases(hch b hb).1 with z | z
  . exact hx z
  . exact absurd (US (UT e) z) (Vr _)
 have cellK: ∀ x c,X.env.cells.lookup x=fv c-> ∀ v,s.heap.IsCell c v->h'.IsCell c v:=λx c e v ⟨o,ho,hd⟩=>by
  have nch:=λz=>(hch c z).2.2.1 x c e rfl;by_cases hc:c∈X.fs
  . obtain⟨sl,q⟩:=slot c o (I.Jf x c e) hc nch ho (I.iy x c e);exact⟨_,q,hd⟩
  . exact⟨o,keep c o (I.Jf x c e) hc nch ho (I.iy x c e),hd⟩
 refine⟨I.ok,I.os,hg,⟨λb o e n hb hx=>?_,λb o e n hb hx=>?_,λb o e n hx=>?_,λb o e hx=>?_,λb xs e=>kG b xs (I.base.kG b xs e),λb o xs e=>ku b o xs (I.base.ku b o xs e),λb ps e=>?_⟩,?_,λx c e=>?_,?_,λx c e=>?_,λp hp=>?_,bb,I.len⟩
 . exact keep b o (neL b o e) hb (neC b o e hx) (I.base.keep b o e n hb hx) (I.base.free b o e n hx)
 . obtain⟨sl,e1⟩:=I.base.slot b o e n hb hx;obtain⟨sl',e2⟩:=slot b _ (neL b o e) hb (neC b o e hx) e1 (I.base.free b o e n hx);exact⟨sl',e2⟩
 . obtain⟨o',e1⟩:=I.base.there b o e hx;exact free b o' (neC b o e hx) e1 (I.base.free b o e n hx)
 . obtain⟨o',e1⟩:=I.base.there b o e hx;exact there b o' (neC b o e hx) e1
 . obtain⟨m1,e1⟩:=I.base.lU b ps e;obtain⟨m2,e2⟩:=lU b _ e1;exact⟨m1++m2,by rw[e2,aaS]⟩
 . obtain⟨m,hn,hl⟩:=I.loc;refine⟨m,ns m hn,λi x v e1 e2 e3=>?_⟩;obtain⟨u,r,l⟩:=hl i x v e1 e2 e3;refine⟨u,r,?_⟩;rcases l with l | ⟨k,c,e,z⟩
   . exact .inl l
   . exact .inr ⟨k,c,e,cellK x c e _ z⟩
 . obtain⟨v,z⟩:=I.cell x c e;exact⟨v,cellK x c e v z⟩
 . obtain⟨m,⟨o,_,_,ho,_⟩,_⟩:=I.loc;exact free _ o (λz=>(hch _ z).2.1 rfl) ho I.free
 . obtain⟨v,o,ho,hd⟩:=I.cell x c e;exact free c o (λz=>(hch c z).2.2.1 x c e rfl) ho (I.iy x c e)
 . obtain⟨e,n,ne,nf,d⟩:=I.pin p hp;have nch:=λz=>(hch p.1 z).2.2.2 p hp rfl;exact⟨keep p.1 p.2 ne nf nch e n,free p.1 p.2 nch e n,ne,nf,d⟩
theorem Inv.un(I:Inv X pins σ H s)(u:Un X.fs [] H H' s.heap h')(bb:jl X.prog X.w H' h'):Inv X pins σ H' { s with heap:=h',toks:=t'}:=by
 obtain⟨m,⟨o,es,ep,ho,r⟩,_⟩:=id I.loc;obtain⟨sl,hL⟩:=u.any ho I.free (by simp);exact I.step (g':=s.gens) (d':=s.drawn) (ch:=[]) (λ_ z=>by cases z) (λb o _ hb _ e n=>u.keep b o e n hb (by simp)) (λb o _ hb _ e n=>u.slot b o e n hb (by simp)) (λb o _ e n=>u.free b o e n (by simp)) (λb o _ e=>u.there b o e (by simp)) u.kG u.ku u.lU (λm' hm=>by
  obtain⟨o',es',ep',ho',r'⟩:=hm;rw[ho] at ho';cases ho';exact⟨_,es',ep',hL,r'⟩) bb I.bare
theorem Inv.call(I:Inv X pins σ H s)(u:Un (zV X.stack) ch H H' s.heap h')(bb:jl X.prog X.w H' h')(hg:Y8 g')
  (hch: ∀ b∈ch,(b∈X.ex\/X.s₀.heap.objs.size<=b)/\b≠X.env.locals/\(∀ x c,X.env.cells.lookup x=fv c->c≠b)/\ ∀ p∈X.pn++pins,p.1≠b) :
  Inv X pins σ H' { s with heap:=h',gens:=g',drawn:=d',toks:=t'}:=by
 obtain⟨m,⟨o,es,ep,ho,r⟩,_⟩:=id I.loc;obtain⟨sl,hL⟩:=u.any ho I.free λz=>(hch _ z).2.1 rfl;exact I.step (ch:=ch) hch (λb o hL hb hc e n=>u.keep b o e n (λz=>(UW.mp (I.k9 b z)).elim hL hb) hc) (λb o _ _ hc e n=>u.any e n hc) (λb o hc e n=>u.free b o e n hc) (λb o hc e=>u.there b o e hc) u.kG u.ku u.lU (λm' hm=>by
  obtain⟨o',es',ep',ho',r'⟩:=hm;rw[ho] at ho';cases ho';exact⟨_,es',ep',hL,r'⟩) bb hg
theorem Inv.turned(I:Inv X pins σ H s)(k: ∀ b o,b≠it->s.heap.get? b=fv o->h'.get? b=fv o)(hn:H it=UB)(hL:it≠X.env.locals)
  (h1:it∈X.ex\/X.s₀.heap.objs.size<=it) (h2: ∀ x c,X.env.cells.lookup x=fv c->c≠it) (h3: ∀ p∈X.pn++pins,p.1≠it):Inv X pins σ H { s with heap:=h',toks:=t'}:=by
 have nit: ∀ b u,H b=fv u->b≠it:=λb u e z=>by simp_all
 refine I.step (g':=s.gens) (d':=s.drawn) (ch:=[it]) (λb hb=>?_) (λb o _ _ hc e _=>k b o (λz=>hc (by simp[z])) e) (λb o _ _ hc e _=>⟨o.slots,k b o (λz=>hc (by simp[z])) e⟩) (λ_ _ _ _ n=>n)
  (λb o hc e=>⟨o,k b o (λz=>hc (by simp[z])) e⟩) (λ_ _ e=>e) (λ_ _ _ e=>e) (λb ps e=>⟨#[],by simp_all⟩) (λm hm=>?_) (λb u e=>?_) I.bare
 . have e:b=it:=by simpa using hb
   subst e;exact⟨h1,hL,h2,h3⟩
 . obtain⟨o,es,ep,ho,r⟩:=hm;exact⟨o,es,ep,k _ o (W2 hL) ho,r⟩
 . refine(I.bb b u e).qQ (λc v hc q=>k c v ?_ q) (λ_ q=>q) λ_ _ q=>q;rcases hc with z | z
   . rw[z];exact nit b u e
   . exact nit c _ z
theorem Inv.tok(I:Inv X pins σ H s) t:Inv X pins σ H { s with toks:=t}:=I.un (h':=s.heap) (t':=t) Un.refl I.bb
theorem Inv.kept(I:Inv X pins σ H s)(k: ∀ b u,s.heap.get? b=fv u->h'.get? b=fv u):Inv X pins σ H { s with heap:=h',toks:=t'}:=I.un (Un.kept k) (I.bb.kept k)
theorem Inv.laid{a:U0}(I:Inv X pins σ H s)(k: ∀ b u,s.heap.get? b=fv u->h'.get? b=fv u)(hp:s.heap.objs.size<=a)(new:aW X.prog X.w (upd H a o) h' a o) :
  Inv X pins σ (upd H a o) { s with heap:=h',toks:=t'}:=I.un (Un.laid k hp (I.bb.fresh hp)) (I.bb.laid k hp new)
theorem Inv.write(I:Inv X pins σ H s)(mu:OY (H x))(he:e=x∨H e=fv (.own x))(k: ∀ b u,b≠e->s.heap.get? b=fv u->h'.get? b=fv u)(heo: ∃ u,h'.get? e=fv u)
  (new:aW X.prog X.w (upd H x o) h' x o):Inv X pins σ (upd H x o) { s with heap:=h',toks:=t'}:=I.un (Un.write mu he k heo) (I.bb.write mu he k heo new)
theorem Inv.weak(I:Inv X pins σ H s)(hl: σ'.length= σ.length)(w: ∀ (i:Nat) v, σ'[i]?=fv (fv v)-> σ[i]?=fv (fv v)):Inv X pins σ' H s :=
 ⟨I.ok,I.os,I.bare,I.base,by obtain ⟨m,hn,hl'⟩:=I.loc;exact ⟨m,hn,λi x v e1 e2 e3=>hl' i x v e1 (w i v e2) e3⟩,I.cell,I.free,I.iy,I.pin,I.bb,hl.trans I.len⟩
theorem Inv.iY(I:Inv X pins σ H s)(h: ∀ p∈pins',s.heap.get? p.1=fv p.2∧H p.1=UB∧p.1≠X.env.locals∧p.1 ∉ X.fs∧ ∀ v,p.2.data≠ .cell v):Inv X pins' σ H s :=
 ⟨I.ok,I.os,I.bare,I.base,I.loc,I.cell,I.free,I.iy,λp hp=>(V6.mp hp).elim (λz=>I.pin p (Xm _ z)) (h p),I.bb,I.len⟩
theorem uP{N:List Str}(hN:N.Nodup){ j:Nat}(a:N[i]?=fv x)(b:N[j]?=fv x):i=j:=by
 obtain⟨h1,e1⟩:=UJ.mp a;obtain⟨h2,e2⟩:=UJ.mp b;exact(List.getElem_inj hN).mp (e1.trans e2.symm)
theorem pW{M:Model}{A:Wf}{E:UH->UM->Prop}{i:Nat}{x:Str}{v:V}{u:UH}{Q:Unit->UM->Prop}(I:Inv X pins σ H s)(hN:X.N.Nodup)(hi:X.N[i]?=fv x)(hx:Loc X.env.scope x)(r:RelV v u)
  (h: ∀ s',Inv X pins (σ.set i (fv v)) H s'->(∃ a,ZK a s.heap s'.heap/\(a=X.env.locals\/X.env.cells.lookup x=fv a))->Q () s') (hf:X.fn x=true\/X.env.scope.names.lookup x=fv .local:=by first | exact .inl rfl | exact .inr rfl | assumption):U2 M A (storeName X.env x u) Q E s:=by
 obtain⟨m,hn,hl⟩:=id I.loc;have hcls:(X.env.scope.kind == .class||(X.env.scope.kind == .module&&X.env.locals !=X.env.globals))=false:=by rw[I.ok.kind];rfl
 have hiσ :i < σ.length:=by rw[I.len];exact(UJ.mp hi).1
 have Jf:=I.Jf;have tracked: ∀{a:U0}{h':VO},(∃ o,s.heap.get? a=fv o/\H a=UB)->ZK a s.heap h'->jl X.prog X.w H h':=λ{a h'} ha hs b ob e=>by
  obtain⟨_,_,hfree⟩:=ha;refine(I.bb b ob e).qQ (λc w' hc q=>(hs.2 c ?_).trans q) (λ_ q=>q) λ_ _ q=>q;rintro rfl;rcases hc with rfl | hc
  . simp_all
  . simp_all
 rcases hx with hk | hk
 . refine wpAny_storeName_local hk hn (λh' hn' hs=>?_) hcls;obtain⟨oL,_,_,hoL,_⟩:=id hn;refine h _ ⟨I.ok,I.os,I.bare,⟨λb o e n hb hx=>?_,λb o e n hb hx=>?_,I.base.free,λb o e hx=>?_,I.base.kG,I.base.ku,I.base.lU⟩,⟨_,hn',λj y v' e1 e2 e3=>?_⟩,λy c e=>?_,I.free,I.iy,λp hp=>?_,tracked ⟨oL,hoL,I.free⟩ hs,by simpa using I.len⟩ ⟨_,hs,.inl rfl⟩
   . exact(hs.2 b (U7 (US (UT e) I.ok.above))).trans (I.base.keep b o e n hb hx)
   . obtain⟨sl,e1⟩:=I.base.slot b o e n hb hx;exact⟨sl,(hs.2 b (U7 (US (UT e) I.ok.above))).trans e1⟩
   . obtain⟨o',e1⟩:=I.base.there b o e hx;exact⟨o',(hs.2 b (U7 (US (UT e) I.ok.above))).trans e1⟩
   . by_cases hj:j=i
     . subst hj;rw[hi] at e1;cases e1;rw[VS hiσ] at e2;cases e2;exact⟨u,r,.inl ⟨hk,by simp⟩⟩
     . rw[Ww (W2 hj)] at e2;obtain⟨u',r',q⟩:=hl j y v' e1 e2 e3;refine⟨u',r',?_⟩;rcases q with⟨k,e⟩ | ⟨k,c,e,z⟩
       . refine .inl ⟨k,?_⟩;have:y≠x:=λe=>hj (uP hN e1 (e ▸ hi));simp[this,e]
       . exact .inr ⟨k,c,e,z.sameBut hs (Jf y c e)⟩
   . obtain⟨w',z⟩:=I.cell y c e;exact⟨w',z.sameBut hs (Jf y c e)⟩
   . obtain⟨e,n,ne,nf,d⟩:=I.pin p hp;exact⟨(hs.2 p.1 ne).trans e,n,ne,nf,d⟩
 . have hfn:X.fn x=true:=by
    simp_all
   obtain⟨c,hc⟩:=I.ok.has x (.inl hk);obtain⟨w',z⟩:=I.cell x c hc;refine wpAny_storeName_cell I.ok.kind hk hc z (λh' hc' hs=>?_);obtain⟨oc,hoc,hocd⟩:=id z;refine h { s with heap:=h'} ⟨I.ok,I.os,I.bare,⟨λb o e n hb hx=>?_,λb o e n hb hx=>?_,I.base.free,λb o e hx=>?_,I.base.kG,I.base.ku,I.base.lU⟩,⟨m,hn.sameBut hs (W2 (Jf x c hc)),λj y v' e1 e2 e3=>?_⟩,λy c' e=>?_,I.free,I.iy,λp hp=>?_,tracked ⟨oc,hoc,I.iy x c hc⟩ hs,by simpa using I.len⟩ ⟨c,hs,.inr hc⟩
   . exact(hs.2 b (U7 (US (UT e) (I.ok.M4 x c hfn hc)))).trans (I.base.keep b o e n hb hx)
   . obtain⟨sl,e1⟩:=I.base.slot b o e n hb hx;exact⟨sl,(hs.2 b (U7 (US (UT e) (I.ok.M4 x c hfn hc)))).trans e1⟩
   . obtain⟨o',e1⟩:=I.base.there b o e hx;exact⟨o',(hs.2 b (U7 (US (UT e) (I.ok.M4 x c hfn hc)))).trans e1⟩
   . by_cases hj:j=i
     . subst hj;rw[hi] at e1;cases e1;rw[VS hiσ] at e2;cases e2;exact⟨u,r,.inr ⟨.inl hk,c,hc,hc'⟩⟩
     . rw[Ww (W2 hj)] at e2;obtain⟨u',r',q⟩:=hl j y v' e1 e2 e3;refine⟨u',r',?_⟩;rcases q with q | ⟨k,c',e,z'⟩
       . exact .inl q
       . refine .inr ⟨k,c',e,z'.sameBut hs ?_⟩;rintro rfl;exact hj (uP hN e1 (I.ok.inj _ _ _ e hc ▸ hi))
   . by_cases hcc:c'=c
     . subst hcc;exact⟨_,hc'⟩
     . obtain⟨w2,z2⟩:=I.cell y c' e;exact⟨w2,z2.sameBut hs hcc⟩
   . obtain⟨e,n,ne,nf,d⟩:=I.pin p hp;refine⟨(hs.2 p.1 ?_).trans e,n,ne,nf,d⟩;intro q;rw[q,hoc] at e;have q':=Vx e;exact d w' (by rw[<- q'];exact hocd)
theorem uM{M:Model}{A:Wf}{E:UH->UM->Prop}{i:Nat}{x:Str}{v:V}{u:UH}{Q:Unit->UM->Prop}(I:Inv X pins σ H s)(hN:X.N.Nodup)(hi:X.N[i]?=fv x)(hx:Loc X.env.scope x)(r:RelV v u)
  (h: ∀ s',Inv X pins (σ.set i (fv v)) H s'->Q () s') (hf:X.fn x=true\/X.env.scope.names.lookup x=fv .local:=by first | exact .inl rfl | exact .inr rfl | assumption):U2 M A (storeName X.env x u) Q E s :=
 pW I hN hi hx r (λs' I' _=>h s' I') hf
theorem Inv.O3(I:Inv X pins σ H s)(ho:s'.os=s.os)(u:Un (zV X.stack) ch H H' s.heap s'.heap)(bb:jl X.prog X.w H' s'.heap)(hg:Y8 s'.gens)
  (hch: ∀ b∈ch,(b∈X.ex\/X.s₀.heap.objs.size<=b)/\b≠X.env.locals/\(∀ x c,X.env.cells.lookup x=fv c->c≠b)/\ ∀ p∈X.pn++pins,p.1≠b):Inv X pins σ H' s':=by
 obtain⟨h',g',d',t',o'⟩:=s';have e:=ho;subst e;exact I.call (g':=g') (t':=t') (d':=d') u bb hg hch
end
abbrev XK:=UH->Option U0->Hp->Prop
abbrev St:=List (Option V)
abbrev VK:=V->Hp->Prop
abbrev TE:=St->Hp->VK->Prop
abbrev TT:=St->Hp->(Bool->Hp->Prop)->Prop
abbrev TA:=St->Hp->(List V->Hp->Prop)->Prop
structure Ends where
 nx:St->Hp->Prop
 rt:VK
 bk:St->Hp->Prop:=λ_ _=>False
 ct:St->Hp->Prop:=λ_ _=>False
abbrev TS:=Ends->St->Hp->Prop
def EP X (pins:List (U0 × Obj)) (σ :St) (Q:VK) (u:UH) (s':UM):= ∃ v H',Inv X pins σ H' s'/\RelV v u/\Q v H'
def TP X (pins:List (U0 × Obj)) (σ :St) (Q:Bool->Hp->Prop) b (s':UM):= ∃ H',Inv X pins σ H' s'/\Q b H'
def AP X (pins:List (U0 × Obj)) (σ :St) (Q:List V->Hp->Prop) (us:List UH) (s':UM):= ∃ vs H',Inv X pins σ H' s'/\Vals vs us/\Q vs H'
def SP X (pins:List (U0 × Obj)) (D:Ends) (f:Flow) (s':UM) :=
 match f with
 | .next=> ∃ σ' H',Inv X pins σ' H' s'/\D.nx σ' H'
 | .brk=> ∃ σ' H',Inv X pins σ' H' s'/\D.bk σ' H'
 | .cont=> ∃ σ' H',Inv X pins σ' H' s'/\D.ct σ' H'
 | .ret u=> ∃ v σ' H',Inv X pins σ' H' s'/\RelV v u/\D.rt v H'
def PE X e (t:TE) :=
 ∀ pins s(σ :St) H Q,Inv X pins σ H s->t σ H Q->U2 (U8 X.prog X.w) X.A (Wt e X.env) (EP X pins σ Q) X.xe s
def PT X e (t:TT) :=
 ∀ pins s(σ :St) H Q,Inv X pins σ H s->t σ H Q->U2 (U8 X.prog X.w) X.A (abl e X.env (Wt e X.env)) (TP X pins σ Q) X.xe s
def PW X e (t:TT) :=
 ∀ whole pins s(σ :St) H Q,Inv X pins σ H s->t σ H Q->U2 (U8 X.prog X.w) X.A (abl e X.env whole) (TP X pins σ Q) X.xe s
theorem PW.pt(h:PW X e t):PT X e t:=h _
def PA X (es:List Vu) (t:TA) :=
 ∀ pos pins s(σ :St) H Q,Inv X pins σ H s->t σ H Q->U2 (U8 X.prog X.w) X.A (spliced (Yh pos (Vk es X.env))) (AP X pins σ Q) X.xe s
def PS X st (t:TS) :=
 ∀ pins s(σ :St) H D,Inv X pins σ H s->t D σ H->U2 (U8 X.prog X.w) X.A (exec st X.env) (SP X pins D) X.xe s
def vU X (st:List Z8) (t:TS) :=
 ∀ pins s(σ :St) H D,Inv X pins σ H s->t D σ H->U2 (U8 X.prog X.w) X.A (execs st X.env) (SP X pins D) X.xe s
theorem oF(h:U2 M A t Q E s)(hQ: ∀ a s,Q a s->Q' a s):U2 M A t Q' E s:=Vo h hQ λ_ _ x=>x
theorem gZ(h:U2 M A t (EP X pins σ Q) E s)(k: ∀ u s v H,Inv X pins σ H s->RelV v u->Q v H->Q' u s):U2 M A t Q' E s:=oF h λu s z=>by obtain⟨v,H,a,b,c⟩:=z;exact k u s v H a b c
theorem Ad(h:U2 M A t (AP X pins σ Q) E s)(k: ∀ u s v H,Inv X pins σ H s->Vals v u->Q v H->Q' u s):U2 M A t Q' E s:=oF h λu s z=>by obtain⟨v,H,a,b,c⟩:=z;exact k u s v H a b c
theorem Q0(h:U2 M A t (TP X pins σ Q) E s)(k: ∀ u s H,Inv X pins σ H s->Q u H->Q' u s):U2 M A t Q' E s:=oF h λu s z=>by obtain⟨H,a,c⟩:=z;exact k u s H a c
section
variable {X:Cx}
theorem bin(ha : PE X a ta)(hb : PE X b tb){σ : St}{R : V -> V -> Hp -> Prop}(I : Inv X pins σ H s)(h : ta σ H fun x H1 => tb σ H1 fun y H2 => R x y H2)
      {f : Value -> Value -> Sem α}
    (hf : ∀ v u s2 x y H2, Inv X pins σ H2 s2 -> RelV x v -> RelV y u -> R x y H2 -> U2 (U8 X.prog X.w) X.A (f v u) Q X.xe s2) :
    U2 (U8 X.prog X.w) X.A (Wt a X.env) (λv s₁ => U2 (U8 X.prog X.w) X.A (Wt b X.env) (λu s₂ => U2 (U8 X.prog X.w) X.A (f v u) Q X.xe s₂) X.xe s₁) X.xe s := by
  refine gZ (ha pins s σ H _ I h) λv s1 x H1 I1 r1 q1 => ?_;refine gZ (hb pins s1 σ H1 _ I1 q1) λu s2 y H2 I2 r2 q2 => ?_;exact hf v u s2 x y H2 I2 r1 r2 q2
noncomputable def OD(i:Nat):TE:=fun σ H Q=> ∃ v, σ[i]?=fv (fv v)∧Q v H
noncomputable def tC(v:V):TE:=λ_ H Q=>Q v H
theorem Jl{pos}(hN:X.N[i]?=fv x)(hv:MV X.env.scope x)(hd:(x == ("__debug__"))=false:=by decide)(hcd:(x == ("__classdict__"))=false:=by decide):PE X (.Name x pos) (OD i):=by
 intro pins s σ H Q I h;obtain⟨v,e,h⟩:=h;obtain⟨m,hn,hl⟩:=I.loc;obtain⟨u,r,l⟩:=hl i x v hN e hv;have fin:EP X pins σ Q u s:=⟨v,H,I,r,h⟩
 rcases l with⟨hk,hm⟩ | ⟨hk,c,hc,hcell⟩
 . exact wpAny_Name (wpAny_loadName_local I.ok.kind hk hn hm fin) hd
 . rcases hk with hk | hk
   . exact wpAny_Name (wpAny_loadName_cell I.ok.kind hk hc hcell fin) hd
   . exact wpAny_Name (wpAny_loadName_free I.ok.kind hk hc hcell fin hcd) hd
theorem Lf:PE X (.Constant (.int i) j pos) (tC (.int i)):=λ_ _ _ H _ I h=>wpAny_Constant_int ⟨.int i,H,I.tok _,⟨_,rfl⟩,h⟩
theorem Pt:PE X (.Constant (.bool b) j pos) (tC (.bl b)):=λ_ _ _ H _ I h=>Constant_bool ⟨.bl b,H,I,rfl,h⟩
theorem Jn:PE X (.Constant .none j pos) (tC .non):=λ_ _ _ H _ I h=>aaM ⟨.non,H,I,rfl,h⟩
theorem K5:PE X (.Constant (.str x) j pos) (tC (.str x)):=λ_ _ _ H _ I h=>Calls.Constant_str ⟨.str x,H,I.tok _,⟨_,rfl⟩,h⟩
def Gl(X:Cx) x:=X.env.kindOf x=fv .globalImplicit
theorem xY{E:UH->UM->Prop}{pins:List (U0 × Obj)}{s:UM}{σ :St}{H:Hp}{x:Str}{u:UH}{pos:Pos}{Q:UH->UM->Prop}(I:Inv X pins σ H s)(hg:Gl X x)(hm:X.mg x=fv u)(h:Q u s)
  (hd:(x == ("__debug__" :Str))=false:=by decide):U2 (U8 X.prog X.w) X.A (Wt (.Name x pos) X.env) Q E s :=
 YQ I.ok.kind hg (Calls.loadGlobal_global (by rw[I.ok.glob];exact I.mod.glob.keeps I.bk) hm h) hd
theorem g8{E:UH->UM->Prop}{pins:List (U0 × Obj)}{s:UM}{σ :St}{H:Hp}{x:Str}{u:UH}{pos:Pos}{Q:UH->UM->Prop}(I:Inv X pins σ H s)(hg:Gl X x)(hm:X.mg x=UB)(hv:VR x=fv u)(h:Q u s)
  (hn:x≠ "__name__" :=by decide) (hd:(x == ("__debug__" :Str))=false:=by decide):U2 (U8 X.prog X.w) X.A (Wt (.Name x pos) X.env) Q E s:=by
 obtain⟨mb,h1,h2⟩:=I.mod.blt;exact YQ I.ok.kind hg (Calls.loadGlobal_builtin (by rw[I.ok.glob];exact I.mod.glob.keeps I.bk) hm (by rw[I.ok.blt];exact h1.keeps I.bk) ((h2 x hn).trans hv) h) hd
theorem yb(hg:Gl X x)(hm:X.mg x=fv u)(r:RelV v u)(hd:(x == ("__debug__"))=false:=by decide):PE X (.Name x pos) (tC v) :=
 λ_ _ _ H _ I h=>xY I hg hm ⟨v,H,I,r,h⟩ hd
theorem Gk{pos}(hg:Gl X x)(hm:X.mg x=UB)(hv:VR x=fv u)(r:RelV v u)(hn:x≠ "__name__" :=by decide)(hd:(x == ("__debug__"))=false:=by decide):PE X (.Name x pos) (tC v) :=
 λ_ _ _ H _ I h=>g8 I hg hm hv ⟨v,H,I,r,h⟩ hn hd
variable{a b:Vu}{ta tb:TE}{pos:Pos}
def PC X (op:CmpOp) a b (t:TE) :=
 ∀ pins s(σ :St) H Q,Inv X pins σ H s->t σ H Q ->
  U2 (U8 X.prog X.w) X.A (Wt a X.env) (λv s₁ =>U2 (U8 X.prog X.w) X.A (Wt b X.env) (λu s₂ =>U2 (U8 X.prog X.w) X.A (Vf op v u) (EP X pins σ Q) X.xe s₂) X.xe s₁) X.xe s
theorem ur b (h:op≠ .In) (h2:op≠ .NotIn):V1 op b=false:=by
 have e1:(op == CmpOp.In)=false:=by simp_all
 have e2:(op == CmpOp.NotIn)=false:=by simp_all
 cases b<;>simp[V1,e1,e2]
noncomputable def JX(ta:TE):TE:=fun σ H Q=>ta σ H λx H1=>Q (.bl (decide (x= .non))) H1
noncomputable def Hy(ta:TE):TE:=fun σ H Q=>ta σ H λx H1=>Q (.bl (!decide (x= .non))) H1
theorem RelV.ub(r:RelV x v):(v == WU)=decide (x= .non):=by
 cases x with
 | non=>cases r;rfl
 | bl _=>cases r;rfl
 | int _=>obtain⟨t,rfl⟩:=r;rfl
 | str _=>obtain⟨t,rfl⟩:=r;rfl
 | byt _=>obtain⟨t,rfl⟩:=r;rfl
 | flt _=>obtain⟨t,rfl⟩:=r;rfl
 | ref _=>cases r;rfl
 | ty _=>cases r;rfl
theorem A1(ha:PE X a ta):PC X .Is a (.Constant .none j pos') (JX ta):=by
 intro pins s σ H Q I h;refine gZ (ha pins s σ H _ I h) λv s1 x H1 I1 r1 q1=>?_;exact aaM (is_none_gen ⟨.bl _,H1,I1,by rw[r1.ub];rfl,q1⟩)
theorem FH(ha:PE X a ta):PC X .IsNot a (.Constant .none j pos') (Hy ta):=by
 intro pins s σ H Q I h;refine gZ (ha pins s σ H _ I h) λv s1 x H1 I1 r1 q1=>?_;exact aaM (isnot_none_gen ⟨.bl _,H1,I1,by rw[r1.ub];rfl,q1⟩)
noncomputable def tB(t:TE):TT:=fun σ H Q=>t σ H λx H1=> ∃ c,x= .bl c/\Q c H1
theorem Ku(h:PC X op a b t)(h1:V1 op b=false:=by first | exact ur _ (by decide) (by decide) | rfl):PE X (.Compare a [op] [b] pos) t:=λpins s σ H Q I hw=>wpAny_Compare1 (h pins s σ H Q I hw) h1
theorem Ci(h:PC X op a b t)(h1:V1 op b=false:=by first | exact ur _ (by decide) (by decide) | rfl):PT X (.Compare a [op] [b] pos) (tB t):=by
 intro pins s σ H Q I hw;refine Z9 (oF (h pins s σ H _ I hw) λv s1 h1=>oF h1 λu s2 h2=>gZ h2 λc s3 x H1 I1 r1 q1=>?_) h1;obtain⟨d,rfl,q⟩:=q1;cases r1;exact Wy ⟨H1,I1,q⟩
theorem K9(h:PE X e t)(he: ∀ whole,abl e X.env whole=(do let v <- whole;abR e.pos;Y9 [v] (truthy v)):=by intro _;rfl):PT X e (tB t):=by
 intro pins s σ H Q I hw;refine isTrue_plain (gZ (h pins s σ H _ I hw) λv s1 x H1 I1 r1 q1=>?_) (he _);obtain⟨d,rfl,q⟩:=q1;cases r1;exact Wy ⟨H1,I1,q⟩
variable{tA tB':TT}{rest:List Vu}
noncomputable def Qi(t u:TT):TT:=fun σ H Q=>t σ H λc H1=>if c=true then u σ H1 Q else Q false H1
noncomputable def T6(t u:TT):TT:=fun σ H Q=>t σ H λc H1=>if c=true then Q true H1 else u σ H1 Q
noncomputable def PN(t:TT):TT:=fun σ H Q=>t σ H λc H1=>Q (!c) H1
theorem pw_and1(ha:PT X a tA):PW X (.BoolOp .And [a] pos) tA:=by
 intro wh pins s σ H Q I h;refine isTrue_and (oF (ha pins s σ H Q I h) λc s1 e=>?_);cases c with
 | true=>exact isTrue_and_nil e
 | false=>exact e
theorem pw_or1(ha:PT X a tA):PW X (.BoolOp .Or [a] pos) tA:=by
 intro wh pins s σ H Q I h;refine isTrue_or (oF (ha pins s σ H Q I h) λc s1 e=>?_);cases c with
 | false=>exact isTrue_or_nil e
 | true=>exact e
theorem pw_and(ha:PT X a tA)(hb:PW X (.BoolOp .And (b::rest) pos) tB'):PW X (.BoolOp .And (a::b::rest) pos) (Qi tA tB'):=by
 intro wh pins s σ H Q I h;refine isTrue_and (Q0 (ha pins s σ H _ I h) λc s1 H1 I1 q1=>?_);cases c with
 | true=>exact hb wh pins s1 σ H1 Q I1 q1
 | false=>exact⟨H1,I1,q1⟩
theorem pw_or(ha:PT X a tA)(hb:PW X (.BoolOp .Or (b::rest) pos) tB'):PW X (.BoolOp .Or (a::b::rest) pos) (T6 tA tB'):=by
 intro wh pins s σ H Q I h;refine isTrue_or (Q0 (ha pins s σ H _ I h) λc s1 H1 I1 q1=>?_);cases c with
 | true=>exact⟨H1,I1,q1⟩
 | false=>exact hb wh pins s1 σ H1 Q I1 q1
theorem L5(ha:PT X a tA):PT X (.UnaryOp .Not a pos) (PN tA):=by
 intro pins s σ H Q I h;exact isTrue_not (ha pins s σ H (λc H1=>Q (!c) H1) I h)
noncomputable def Hh(ta tb:TE):TE:=fun σ H Q=>ta σ H λx H1=> ∃ c,x= .bl c/\if c=true then tb σ H1 Q else Q (.bl false) H1
noncomputable def O2(ta tb:TE):TE:=fun σ H Q=>ta σ H λx H1=> ∃ c,x= .bl c/\if c=true then Q (.bl true) H1 else tb σ H1 Q
noncomputable def Hs(ta:TE):TE:=fun σ H Q=>ta σ H λx H1=> ∃ c,x= .bl c/\Q (.bl (!c)) H1
theorem Ls(h:PE X a t):PE X (.BoolOp op [a] pos) t:=λpins s σ H Q I hw=>BoolOp_one (h pins s σ H Q I hw)
theorem Lv(ha:PE X a ta)(hb:PE X (.BoolOp .And (b::rest) pos) tb):PE X (.BoolOp .And (a::b::rest) pos) (Hh ta tb):=by
 intro pins s σ H Q I h;refine BoolOp_and (gZ (ha pins s σ H _ I h) λv s1 x H1 I1 r1 q1=>?_);obtain⟨c,rfl,q1⟩:=q1;cases r1;refine Wy ?_;cases c with
 | true=>exact hb pins s1 σ H1 Q I1 q1
 | false=>exact⟨.bl false,H1,I1,rfl,q1⟩
theorem OV(ha:PE X a ta)(hb:PE X (.BoolOp .Or (b::rest) pos) tb):PE X (.BoolOp .Or (a::b::rest) pos) (O2 ta tb):=by
 intro pins s σ H Q I h;refine BoolOp_or (gZ (ha pins s σ H _ I h) λv s1 x H1 I1 r1 q1=>?_);obtain⟨c,rfl,q1⟩:=q1;cases r1;refine Wy ?_;cases c with
 | false=>exact hb pins s1 σ H1 Q I1 q1
 | true=>exact⟨.bl true,H1,I1,rfl,q1⟩
theorem LH(ha:PE X a ta):PE X (.UnaryOp .Not a pos) (Hs ta):=by
 intro pins s σ H Q I h;refine UnaryOp_ (gZ (ha pins s σ H _ I h) λv s1 x H1 I1 r1 q1=>?_);obtain⟨c,rfl,q1⟩:=q1;cases r1;exact not_of (Wy ⟨.bl (!c),H1,I1,rfl,q1⟩)
noncomputable def SM(t:TT)(ta tb:TE):TE:=fun σ H Q=>t σ H λc H1=>if c=true then ta σ H1 Q else tb σ H1 Q
theorem Ay(hc:PT X c tA)(ha:PE X a ta)(hb:PE X b tb):PE X (.IfExp c a b pos) (SM tA ta tb):=by
 intro pins s σ H Q I h;refine wpAny_IfExp (Q0 (hc pins s σ H _ I h) λd s1 H1 I1 q1=>?_);cases d with
 | true=>exact ha pins s1 σ H1 Q I1 q1
 | false=>exact hb pins s1 σ H1 Q I1 q1
end
def gB(K:UC) H a (xs:List V) :=
 Rd H a (.lst xs) \/
  ∃(o:Obj)(aj:Array UH)(n:Nat),K.lookup a=fv o/\o.cls= .type "list" /\o.dict=UB/\o.data= .seq aj n/\aj.size<=UK/\Vals xs aj.toList
def dQ(K:UC) H a (xs:List V) :=
 Rd H a (.tup xs) \/
  ∃(o:Obj)(aj:Array UH)(n:Nat),K.lookup a=fv o/\o.cls= .type "tuple" /\o.data= .seq aj n/\aj.size<=UK/\Vals xs aj.toList
noncomputable def Sj:UH->Option V
 | .none=>fv .non
 | .bool b=>fv (.bl b)
 | .int i _=>fv (.int i)
 | .str x _=>fv (.str x)
 | .bytes b _=>fv (.byt b)
 | .float b _=>fv (.flt b)
 | .ref a=>fv (.ref a)
 | .type n=>fv (.ty n)
 | _=>UB
theorem RelV.abs(r:RelV x u):Sj u=fv x:=by
 cases x with
 | non=>cases r;rfl
 | bl _=>cases r;rfl
 | int _=>obtain⟨t,rfl⟩:=r;rfl
 | str _=>obtain⟨t,rfl⟩:=r;rfl
 | byt _=>obtain⟨t,rfl⟩:=r;rfl
 | flt _=>obtain⟨t,rfl⟩:=r;rfl
 | ref _=>cases r;rfl
 | ty _=>cases r;rfl
theorem RelV.inj(r:RelV x u)(q:RelV y u):x=y:=Vx (r.abs.symm.trans q.abs)
theorem Vals.inj: ∀{xs ys us},Vals xs us->Vals ys us->xs=ys
 | _,_,_,.nil,.nil=>rfl
 | _,_,_,.cons r t,.cons r' t'=>by rw[r.inj r',Vals.inj t t']
section
variable{X:Cx}{pins:List (U0 × Obj)}{σ :St}{H:Hp}{s:UM}{a:U0}{xs ys:List V}
theorem gB.of{K:UC}(h:H a=fv (.lst xs)):gB K H a xs:= .inl (.inl h)
theorem dQ.of{K:UC}(h:H a=fv (.tup xs)):dQ K H a xs:= .inl (.inl h)
theorem Inv.list(I:Inv X pins σ H s)(h:gB X.K H a xs): ∃ aj ,Vals xs aj/\PlainL s.heap a aj.toArray/\xs.length<=UK:=by
 rcases h with h | ⟨o,aj,n,hk,hc,hd,hs,hz,r⟩
 . obtain⟨z,aj,n,r,e⟩:=h.ok I.bb;exact⟨aj,r,⟨_,n,e,rfl,rfl,rfl⟩,z⟩
 . refine⟨aj.toList,r,⟨o,n,I.ky a o hk,hc,hd,by omega⟩,?_⟩;have e:=r.length;simp only[WB] at e;omega
theorem Inv.tuple(I:Inv X pins σ H s)(h:dQ X.K H a xs): ∃ aj ,Vals xs aj/\IsTup s.heap a aj.toArray/\xs.length<=UK:=by
 rcases h with h | ⟨o,aj,n,hk,hc,hs,hz,r⟩
 . obtain⟨z,aj,r,p⟩:=h.ok I.bb;exact⟨aj,r,p.tup,z⟩
 . refine⟨aj.toList,r,⟨o,I.ky a o hk,hc,n,by omega⟩,?_⟩;have e:=r.length;simp only[WB] at e;omega
theorem Inv.BZ(I:Inv X pins σ H s)(h:gB X.K H a xs)(h':gB X.K H a ys):xs=ys:=by
 obtain⟨aj,r,⟨o,n,e,_,_,d⟩,_⟩:=I.list h;obtain⟨its',r',⟨o',n',e',_,_,d'⟩,_⟩:=I.list h';rw[e] at e';cases e';rw[d] at d';injection d' with d1 _;have:aj=its':=by simpa using congrArg ab3 d1
 subst this;exact r.inj r'
theorem Inv.iW(I:Inv X pins σ H s)(h:dQ X.K H a xs)(h':dQ X.K H a ys):xs=ys:=by
 obtain⟨aj,r,⟨o,e,_,n,d⟩,_⟩:=I.tuple h;obtain⟨its',r',⟨o',e',_,n',d'⟩,_⟩:=I.tuple h';rw[e] at e';cases e';rw[d] at d';injection d' with d1 _;have:aj=its':=by simpa using congrArg ab3 d1
 subst this;exact r.inj r'
end
abbrev Cx.oW(X:Cx)(E:UH->UM->Prop):Cx:={ X with xe:=E}
abbrev Cx.sC(X:Cx):Cx:=X.oW λ_ _=>False
theorem Cx.Ok.oW{X:Cx}(ok:X.Ok) E:(X.oW E).Ok :=
 ⟨ok.mod,ok.kind,ok.glob,ok.blt,ok.above,ok.inj,ok.has,ok.M4,ok.hd,ok.frames,ok.OI,ok.R5,ok.bs,ok.Dk,ok.yI,ok.BY,ok.kA,ok.Hi⟩
theorem Cx.Ok.iw{X:Cx}(ok:(X.oW E).Ok):X.Ok :=
 ⟨ok.mod,ok.kind,ok.glob,ok.blt,ok.above,ok.inj,ok.has,ok.M4,ok.hd,ok.frames,ok.OI,ok.R5,ok.bs,ok.Dk,ok.yI,ok.BY,ok.kA,ok.Hi⟩
section
variable{X:Cx}{pins:List (U0 × Obj)}{σ :St}{H:Hp}{s:UM}{E:UH->UM->Prop}
theorem Inv.oW(I:Inv X pins σ H s) E:Inv (X.oW E) pins σ H s:=⟨I.ok.oW E,I.os,I.bare,I.base,I.loc,I.cell,I.free,I.iy,I.pin,I.bb,I.len⟩
theorem Inv.iw(I:Inv (X.oW E) pins σ H s):Inv X pins σ H s:=⟨I.ok.iw,I.os,I.bare,I.base,I.loc,I.cell,I.free,I.iy,I.pin,I.bb,I.len⟩
theorem SP.iw(h:SP (X.oW E) pins D f s'):SP X pins D f s':=by
 cases f with
 | next=>obtain ⟨σ',H',I,q⟩:=h;exact ⟨σ',H',I.iw,q⟩
 | brk=>obtain ⟨σ',H',I,q⟩:=h;exact ⟨σ',H',I.iw,q⟩
 | cont=>obtain ⟨σ',H',I,q⟩:=h;exact ⟨σ',H',I.iw,q⟩
 | ret u=>obtain ⟨v, σ',H',I,r,q⟩:=h;exact ⟨v, σ',H',I.iw,r,q⟩
theorem vU.sC{st}(h:vU X.sC st t):vU X st t:=λpins s σ H D I hw =>
 Vo (h pins s σ H D (I.oW _) hw) (λ_ _ q=>q.iw) λ_ _ z=>Wz z
end
section
variable{X:Cx}{st:Z8}{rest:List Z8}{t u:TS}{e:Vu}{te:TE}{pos:Pos}
noncomputable def Ax:TS:=λD σ H=>D.nx σ H
noncomputable def Kv(t u:TS):TS:=λD σ H=>t { D with nx:=u D} σ H
theorem DK:vU X [] Ax:=λ_ _ σ H _ I h=>Yt ⟨σ,H,I,h⟩
theorem AE(h1:PS X st t)(h2:vU X rest u):vU X (st::rest) (Kv t u):=by
 intro pins s σ H D I h;refine wpAny_execs_cons (oF (h1 pins s σ H { D with nx:=u D} I h) λf s1 q=>?_);cases f with
 | next =>
  obtain⟨σ',H',I',q⟩:=q
  exact h2 pins s1 σ' H' D I' q
 | ret v=>exact q
 | brk=>exact q
 | cont=>exact q
theorem Fx(h1:PS X st t):vU X [st] t:=by
 intro pins s σ H D I h;refine wpAny_execs_cons (oF (h1 pins s σ H D I h) λf s1 q=>?_);cases f with
 | next=>exact Yt q
 | ret v=>exact q
 | brk=>exact q
 | cont=>exact q
theorem Inv.quiet{σ :St}(I:Inv X pins σ H s):interactive X.env=false:=by simp[interactive,I.ok.kind]
noncomputable def G1(te:TE):TS:=λD σ H=>te σ H λ_ H1=>D.nx σ H1
theorem Gj(he:PE X e te)(hs:Xh e UB pos.line X.env=pure false:=by rfl):PS X (.Expr e pos) (G1 te):=by
 intro pins s σ H D I h;exact wpAny_Expr_any (gZ (he pins s σ H _ I h) λv s1 x H1 I1 r1 q1=>⟨σ,H1,I1,q1⟩) I.quiet hs
noncomputable def NF(te:TE):TS:=λD σ H=>te σ H D.rt
theorem Lc(he:PE X e te):PS X (.Return (fv e) pos) (NF te):=by
 intro pins s σ H D I h;exact wpAny_Return_some (gZ (he pins s σ H _ I h) λv s1 x H1 I1 r1 q1=>⟨x, σ,H1,I1,r1,q1⟩)
noncomputable def Oe(c:TT)(t u:TS):TS:=λD σ H=>c σ H λb H1=>if b=true then t D σ H1 else u D σ H1
theorem NM(hc:PT X c tc)(ha:vU X a t)(hb:vU X b u):PS X (.If c a b pos) (Oe tc t u):=by
 intro pins s σ H D I h;refine wpAny_If (Q0 (hc pins s σ H _ I h) λd s1 H1 I1 q1=>?_);cases d with
 | true=>exact ha pins s1 σ H1 D I1 q1
 | false=>exact hb pins s1 σ H1 D I1 q1
noncomputable def Lz:TS:=λ_ _ _=>False
theorem B2:PS X st Lz:=λ_ _ _ _ _ _ h=>h.elim
end
abbrev TG:=V->St->Hp->(St->Hp->Prop)->Prop
abbrev Dl:=List V->St->Hp->(St->Hp->Prop)->Prop
def PG X target (t:TG) :=
 ∀ pins s(σ :St) H v u Q,Inv X pins σ H s->RelV v u->t v σ H Q ->
  U2 (U8 X.prog X.w) X.A (Yu target X.env u) (λ_ s'=> ∃ σ' H',Inv X pins σ' H' s'/\Q σ' H') X.xe s
def Oi X (ts:List Vu) (t:Dl) :=
 ∀ pins s(σ :St) H vs us Q,Inv X pins σ H s->Vals vs us->t vs σ H Q ->
  U2 (U8 X.prog X.w) X.A (assignInOrder ((VM ts X.env).map (·.2)) us) (λ_ s'=> ∃ σ' H',Inv X pins σ' H' s'/\Q σ' H') X.xe s
abbrev KJ:=V->V->V->Hp->(Hp->Prop)->Prop
def pB X (t:KJ) :=
 ∀ pins s(σ :St) H o i v ov iv u Q,Inv X pins σ H s->RelV o ov->RelV i iv->RelV v u->t o i v H Q ->
  U2 (U8 X.prog X.w) X.A (setItem ov iv u) (λ_ s'=> ∃ H',Inv X pins σ H' s'/\Q H') X.xe s
section
variable{X:Cx}{pos:Pos}
noncomputable def eF(i:Nat):TG:=λv σ H Q=>Q (σ.set i (fv v)) H
theorem Eb(hN:X.N.Nodup)(hi:X.N[i]?=fv x)(hx:Loc X.env.scope x)(hf:X.fn x=true\/X.env.scope.names.lookup x=fv .local:=by first | exact .inl rfl | exact .inr rfl | assumption):PG X (.Name x pos) (eF i):=by
 intro pins s σ H v u Q I r h;exact wpAny_assign_Name (uM I hN hi hx r (λs' I'=>⟨_,H,I',h⟩) hf)
noncomputable def ze:Dl:=λvs σ H Q=>vs=[]/\Q σ H
noncomputable def lD(t:TG)(u:Dl):Dl:=λvs σ H Q=> ∃ v r,vs=v::r/\t v σ H fun σ' H'=>u r σ' H' Q
theorem FQ:Oi X [] ze:=by
 intro pins s σ H vs us Q I r h;obtain⟨e,h⟩:=h;subst e;exact assignInOrder_nil ⟨σ,H,I,h⟩
theorem C4(h1:PG X e t)(h2:Oi X es u)
  (hs:(VM (e::es) X.env).map (·.2)=Yu e X.env::(VM es X.env).map (·.2):=by rfl):Oi X (e::es) (lD t u):=by
 intro pins s σ H vs us Q I r h;obtain⟨v,vr,e1,h⟩:=h;subst e1;cases r with
 | cons r rr =>
  rw[hs]
  refine assignInOrder_cons (oF (h1 pins s σ H _ _ _ I r h) λ_ s1 z9=>?_);obtain⟨σ1,H1,I1,q1⟩:=z9
  exact h2 pins s1 σ1 H1 _ _ Q I1 rr q1
noncomputable def v9(K:UC)(n:Nat)(t:Dl):TG:=λv σ H Q=> ∃ a xs,v= .ref a/\dQ K H a xs/\xs.length=n/\t xs σ H Q
theorem LW{k}(hc:X.calm=true)(h:Oi X es t)
  (hn:(VM es X.env).length=n:=by rfl) (hst:(VM es X.env).findIdx? (·.1)=UB:=by rfl):PG X (.Tuple es k pos) (v9 X.K n t):=by
 intro pins s σ H v u Q I r hw;obtain⟨a,xs,e1,hq,hl,hw⟩:=hw;subst e1;cases r;obtain⟨aj,rv,ht,hz⟩:=I.tuple hq;refine assign_Tuple_tuple (I.ok.hd hc) ht (by simp[hn,<- hl,rv.length]) hst λh' hx=>?_;have I1:=I.kept (t':=s.toks) λb o e=>hx b o (U7 (UT e)) e;exact h pins _ σ H xs _ Q I1 (by omega) hw
noncomputable def Q6(to ti:TE)(t:KJ):TG:=λv σ H Q=>to σ H λo H1=>ti σ H1 λi H2=>t o i v H2 λH3=>Q σ H3
theorem Iu(ho:PE X o to)(hi:PE X i ti)(hs:pB X t)
  (ha: ∀ v,Yu (.Subscript o i pos) X.env v=(do
   let ov <- Y9 [v] (Wt o X.env)
   let iv <- Y9 [v,ov] (Wt i X.env)
   abR pos
   Y9 [v,ov,iv] (setItem ov iv v)
   release [v,ov,iv] []):=by intro _;rfl):PG X (.Subscript o i pos) (Q6 to ti t):=by
 intro pins s σ H v u Q I r h;rw[ha];refine UA (Wg (gZ (ho pins s σ H _ I h) λov s1 x H1 I1 r1 q1=>?_));refine UA (Wg (gZ (hi pins s1 σ H1 _ I1 q1) λiv s2 y H2 I2 r2 q2=>?_));refine UA (aaN (UA (Wg (oF (hs pins s2 σ H2 x y v ov iv u _ I2 r1 r2 r q2) λ_ s3 z9=>?_))));obtain⟨H3,I3,q3⟩:=z9;exact wpAny_release ⟨σ,H3,I3,q3⟩
noncomputable def EN(te:TE)(g:TG):TS:=λD σ H=>te σ H λx H1=>g x σ H1 D.nx
theorem Mc(he:PE X e te)(hg:PG X tg g)(hs:Zi [tg] e pos.line X.env=pure false:=by rfl)(hw:Zj [tg] e X.env=pure UB:=by rfl)
  (h1:(VM [tg] X.env).map (·.2)=[Yu tg X.env]:=by rfl):PS X (.Assign [tg] e pos) (EN te g):=by
 intro pins s σ H D I h;refine wpAny_Assign_stores (gZ (he pins s σ H _ I h) λv s1 x H1 I1 r1 q1=>?_) hs hw;rw[h1];exact oF (hg pins s1 σ H1 x v _ I1 r1 q1) λ_ s2 q=>q
theorem Ir(hN:X.N.Nodup)(hi:X.N[i]?=fv x)(hx:Loc X.env.scope x)(he:PE X e te)(hs:Xh e (fv (.Name x pos')) pos.line X.env=pure false:=by rfl)(hf:X.fn x=true\/X.env.scope.names.lookup x=fv .local:=by first | exact .inl rfl | exact .inr rfl | assumption) :
  PS X (.Assign [.Name x pos'] e pos) (EN te (eF i)):=by
 intro pins s σ H D I h;refine wpAny_Assign_Name (gZ (he pins s σ H _ I h) λv s1 y H1 I1 r1 q1=>?_) hs;exact uM I1 hN hi hx r1 (λs2 I2=>⟨_,H1,I2,q1⟩) hf
end
structure It where
 go:Nat->Hp->Prop
 Hl:Nat->Hp->V->Hp->Prop
 stop:Nat->Hp->Prop
def lZ(X:Cx)(pins:List (U0 × Obj))(H:Hp) b :=
 H b=UB/\b≠X.env.locals/\b ∉ X.fs/\(b∈X.ex\/X.s₀.heap.objs.size<=b)/\(∀ x c,X.env.cells.lookup x=fv c->c≠b)/\ ∀ p∈X.pn++pins,p.1≠b
theorem Inv.F4{X:Cx}{pins:List (U0 × Obj)}{σ :St}{H H':Hp}{s:UM}{b:U0}(I:Inv X pins σ H s)(hb:s.heap.objs.size<=b)(hn:H' b=UB):lZ X pins H' b:=by
 refine⟨hn,WD (US I.lt hb),I.OX hb,.inr (Va I.sz hb),λx c e z=>?_,λp hp z=>?_⟩
 . obtain⟨v,q⟩:=I.cell x c e;exact absurd (US q.lt (by simp_all)) (Vr _)
 . exact absurd (US (UT (I.pin p hp).1) (by simp_all)) (Vr _)
structure Turn(P:Vl)(w:VE)(K:UC)(tg:Vu)(J:It)(fp:List U0)(it:U0)(tn:Nat->VO->Prop):Prop where
 mem:it∈fp
 obj: ∀ i h,tn i h-> ∀ b∈fp,∃ o,h.get? b=fv o/\ ∀ v,o.data≠ .cell v
 keep: ∀ i h h',tn i h->(∀ b∈fp,∀ o,h.get? b=fv o->h'.get? b=fv o)->tn i h'
 item: ∀(X:Cx),X.prog=P->X.w=w->X.K=K->X.calm=true-> ∀(i:Nat)(pins:List (U0 × Obj))(s:UM)(σ :St)(H:Hp)(E:UH->UM->Prop),Inv X pins σ H s->(∀ b∈fp,lZ X pins H b)->tn i s.heap->J.go i H ->
  U2 (U8 P w) X.A (abm (.ref it)) (λr s1=> ∃ u,r=fv u /\
   U2 (U8 P w) X.A (Z1 tg (.ref it) u) (λ_ s2=> ∃ x H',Inv X pins σ H' s2/\RelV x u/\J.Hl i H x H'/\tn (i+1) s2.heap/\ ∀ b∈fp,H' b=UB) E s1) E s
 done: ∀(X:Cx),X.prog=P->X.w=w->X.K=K->X.calm=true-> ∀(i:Nat)(pins:List (U0 × Obj))(s:UM)(σ :St)(H:Hp)(E:UH->UM->Prop),Inv X pins σ H s->(∀ b∈fp,lZ X pins H b)->tn i s.heap->J.stop i H ->
  U2 (U8 P w) X.A (abm (.ref it)) (λr s1=>r=UB/\Inv X pins σ H s1) E s
 self: ∀(A:Wf)(i:Nat)(s:UM)(Q:UH->UM->Prop)(E:UH->UM->Prop),tn i s.heap->Q (.ref it) s->U2 (U8 P w) A (abn (.ref it)) Q E s
abbrev TI:=St->Hp->(It->Hp->Prop)->Prop
def OM X (pins:List (U0 × Obj)) (σ :St) tg (R:It->Hp->Prop) (itv:UH) (s2:UM) :=
 ∃(it:U0)(fp:List U0)(tn:Nat->VO->Prop)(J:It)(H':Hp),itv= .ref it/\Inv X pins σ H' s2/\Turn X.prog X.w X.K tg J fp it tn/\tn 0 s2.heap/\(∀ b∈fp,lZ X pins H' b)/\R J H'
def PI X tg iter (wi:TI) :=
 ∀ pins s(σ :St) H R,Inv X pins σ H s->wi σ H R ->
  U2 (U8 X.prog X.w) X.A (Wt iter X.env) (λv s1=>U2 (U8 X.prog X.w) X.A (abn v) (OM X pins σ tg R) X.xe s1) X.xe s
theorem xi{M : Model}{A : Wf}{E : UH -> UM -> Prop}{s : UM}{tg : Vu}{it : U0}{u : UH}{o : Obj}{n : String}{vs : Array UH}{Q : Unit -> UM -> Prop}(ho : s.heap.get? it = fv o)(hc : o.cls = .type n)(hd : o.data = .fields vs)
    (hn : ["enumerate", "zip", "dict_itemiterator", "dict_reverseitemiterator", "odict_iterator", "itertools.zip_longest", "itertools.pairwise"].contains n = false) (hQ : Q () s) : U2 M A (Z1 tg (.ref it) u) Q E s := by
  cases tg <;> first
    | exact UO hQ
    | (cases u <;> first
        | exact UO hQ
        | (refine UA (Xn ho ?_)
           rw [hc, hd]
           show U2 M A (if (["enumerate", "zip", "dict_itemiterator", "dict_reverseitemiterator", "odict_iterator", "itertools.zip_longest", "itertools.pairwise"].contains n && vs[0]? == fv (abT _)) = true then _ else _) Q E s
           rw [if_neg (by intro h; rw [hn] at h; cases h)]
           exact UO hQ))
noncomputable def Sw(K:UC)(a:U0):It :=
 ⟨λi H=> ∃ xs x,gB K H a xs/\xs[i]?=fv x,λi H x H'=>H'=H/\ ∀ xs,gB K H a xs->xs[i]?=fv x,λi H=> ∃ xs,gB K H a xs/\xs.length<=i⟩
noncomputable def Am(K:UC)(a:U0):It :=
 ⟨λi H=> ∃ xs x,dQ K H a xs/\xs[i]?=fv x,λi H x H'=>H'=H/\ ∀ xs,dQ K H a xs->xs[i]?=fv x,λi H=> ∃ xs,dQ K H a xs/\xs.length<=i⟩
noncomputable def QM(lo:Int)(n:Nat):It:=⟨λi _=>i < n,λi H x H'=>H'=H/\x= .int (lo+i),λi _=>n<=i⟩
theorem zq{K} a it:Turn P w K tg (Sw K a) [it] it (λi h=>h.IsListIter it a i) where
 mem:=by simp
 obj:=λi h st b hb=>by
  have e:b=it:=by simpa using hb
  subst e;obtain⟨o,e,c,d⟩:=st;exact⟨o,e,λv z=>by simp_all⟩
 keep:=λi h h' st k=>st.at λo e=>k it (by simp) o e
 item:=by
  intro X hP hw hK hc i pins s σ H E I hf st hg;subst hP hw hK;obtain⟨xs,x,hq,hx⟩:=hg;obtain⟨aj,rv,p,hz⟩:=I.list hq;obtain⟨u,hu,ru⟩:=rv.get hx;obtain⟨f0,f1,f2,f3,f4,f5⟩:=hf it (by simp);refine wpAny_pyNext_list_item st p.isList (x:=u) (by simpa using hu) λh' st' sb=>?_;have I1:=I.turned (t':=s.toks) (λb o hb e=>(sb.2 b hb).trans e) f0 f1 f3 f4 f5;obtain⟨o,e,c,d⟩:=id st';exact⟨u,rfl,xi (s:={ s with heap:=h'}) e c d (by decide) ⟨x,H,I1,ru,⟨rfl,λys hy=>by rw[I.BZ hy hq];exact hx⟩,st',λb hb=>(hf b hb).1⟩⟩
 done:=by
  intro X hP hw hK hc i pins s σ H E I hf st hg;subst hP hw hK;obtain⟨xs,hq,hx⟩:=hg;obtain⟨aj,rv,p,hz⟩:=I.list hq;obtain⟨f0,f1,f2,f3,f4,f5⟩:=hf it (by simp);have hl:=rv.length;exact wpAny_pyNext_list_end (I.ok.hd hc) st p.isList (by simp;omega) λh' eb=>⟨rfl,I.turned (t':=s.toks) (λb o hb e=>eb b o hb e) f0 f1 f3 f4 f5⟩
 self:=λ_ _ _ _ _ st h=>wpAny_pyIter_listiter st h
theorem wy{K} a it:Turn P w K tg (Am K a) [it] it (λi h=>h.IsTupleIter it a i) where
 mem:=by simp
 obj:=λi h st b hb=>by
  have e:b=it:=by simpa using hb
  subst e;obtain⟨o,e,c,d⟩:=st;exact⟨o,e,λv z=>by simp_all⟩
 keep:=λi h h' st k=>st.at λo e=>k it (by simp) o e
 item:=by
  intro X hP hw hK hc i pins s σ H E I hf st hg;subst hP hw hK;obtain⟨xs,x,hq,hx⟩:=hg;obtain⟨aj,rv,p,hz⟩:=I.tuple hq;obtain⟨u,hu,ru⟩:=rv.get hx;obtain⟨f0,f1,f2,f3,f4,f5⟩:=hf it (by simp);refine wpAny_pyNext_tuple_item st (show s.heap.IsTuple a aj.toArray from p) (x:=u) (by simpa using hu) λh' st' sb=>?_;have I1:=I.turned (t':=s.toks) (λb o hb e=>(sb.2 b hb).trans e) f0 f1 f3 f4 f5;obtain⟨o,e,c,d⟩:=id st';exact⟨u,rfl,xi (s:={ s with heap:=h'}) e c d (by decide) ⟨x,H,I1,ru,⟨rfl,λys hy=>by rw[I.iW hy hq];exact hx⟩,st',λb hb=>(hf b hb).1⟩⟩
 done:=by
  intro X hP hw hK hc i pins s σ H E I hf st hg;subst hP hw hK;obtain⟨xs,hq,hx⟩:=hg;obtain⟨aj,rv,p,hz⟩:=I.tuple hq;obtain⟨f0,f1,f2,f3,f4,f5⟩:=hf it (by simp);have hl:=rv.length;exact wpAny_pyNext_tuple_end (I.ok.hd hc) st (show s.heap.IsTuple a aj.toArray from p) (by simp;omega) λh' eb=>⟨rfl,I.turned (t':=s.toks) (λb o hb e=>eb b o hb e) f0 f1 f3 f4 f5⟩
 self:=λ_ _ _ _ _ st h=>wpAny_pyIter_tupleiter st h
theorem wQ{K} it lo n:Turn P w K tg (QM lo n) [it] it (λi h=>IsRangeIter h it (lo+(i)*1) ((n) - (i)) 1) where
 mem:=by simp
 obj:=λi h st b hb=>by
  simp_all
 keep:=λi h h' st k=>k it (by simp) _ st
 item:=by
  intro X hP hw hK hc i pins s σ H E I hf st hg;subst hP hw hK;obtain⟨f0,f1,f2,f3,f4,f5⟩:=hf it (by simp);have W:=Walks.range (prog:=X.prog) (w:=X.w) (I.ok.hd hc) it lo 1 n;refine W.item i s _ _ hg st λv h' tk hv st' kk=>?_;obtain⟨t,rfl⟩:=hv;have I1:Inv X pins σ H { s with heap:=h',toks:=tk}:=I.turned (λb o hb e=>kk b o (by simpa using hb) e) f0 f1 f3 f4 f5;refine⟨_,rfl,xi (s:={ s with heap:=h',toks:=tk}) (n:= "range_iterator") st' rfl rfl (by decide) ⟨.int (lo+i),H,I1,⟨t,?_⟩,⟨rfl,rfl⟩,st',λb hb=>(hf b hb).1⟩⟩;rw[Int.mul_one]
 done:=by
  intro X hP hw hK hc i pins s σ H E I hf st hg;obtain⟨f0,f1,f2,f3,f4,f5⟩:=hf it (by simp);exact wpAny_pyNext_range_end (I.ok.hd hc) st (by have:n<=i:=hg;omega) λh' eb=>⟨rfl,I.turned (t':=s.toks) (λb o hb e=>eb b o hb e) f0 f1 f3 f4 f5⟩
 self:=λ_ _ _ _ _ st h=>wpAny_pyIter_rangeiter st h
section
variable{X:Cx}{tg:Vu}
theorem Cu{pins:List (U0 × Obj)}{σ :St}{H:Hp}{s:UM}{R:It->Hp->Prop}{E:UH->UM->Prop}{lo hi:Int}{t u v:Tok}{tk:Nat}(I:Inv X pins σ H s)(h1: -(2 ^ 62)<=lo)(h2:lo < 2 ^ 62)(h3: -(2 ^ 62)<=hi)(h4:hi < 2 ^ 62)
  (q:R (QM lo (hi - lo).toNat) H):U2 (U8 X.prog X.w) X.A (abn (.ref s.heap.objs.size)) (OM X pins σ tg R) E { s with heap:=s.heap.push { cls:= .type "range",data:= .fields #[.int lo t,.int hi u,.int 1 v]},toks:=tk}:=by
 refine wpAny_pyIter_range (ab6 ..) (small_one h1 h2 h3 h4) ?_;have I1:Inv X pins σ H { s with heap:=s.heap.push { cls:= .type "range",data:= .fields #[.int lo t,.int hi u,.int 1 v]},toks:=tk}:=I.kept λb o e=>UD _ e;refine⟨(s.heap.push { cls:= .type "range",data:= .fields #[.int lo t,.int hi u,.int 1 v]}).objs.size,[(s.heap.push { cls:= .type "range",data:= .fields #[.int lo t,.int hi u,.int 1 v]}).objs.size],_,_,H,rfl,
  I1.kept (t':=tk) λb o e=>UD _ e,wQ _ lo (hi - lo).toNat,?_,λb hb=>?_,q⟩
 . have e1:lo+((0:Nat))*1=lo:=by simp
   have e2:(((hi - lo).toNat)) - ((0:Nat))=Zv lo hi 1:=by rw[rangeSize_one];split<;>omega
   rw[e1,e2];exact UY _ rfl
 . have e:b=(s.heap.push { cls:= .type "range",data:= .fields #[.int lo t,.int hi u,.int 1 v]}).objs.size:=by simpa using hb
   subst e;exact I1.F4 (UL _) (I1.bb.fresh (UL _))
def PD(ta:TA):TI:=fun σ H R=>ta σ H λvs H1=> ∃ j ,vs=[.int j]/\ -(2 ^ 62)<=j/\j < 2 ^ 62/\R (QM 0 j.toNat) H1
theorem yV(hg:Gl X "range")(hm:X.mg "range" =UB)(ha:PA X [a] ta)(hs:Vk [a] X.env=[(false,Wt a X.env)]:=by rfl):PI X tg (.Call (.Name "range" p) [a] [] pos) (PD ta):=by
 intro pins s σ H R I h;refine Call_ (g8 I hg hm boot_range (VN (Ad (ha pos pins s σ H _ I h) λus s1 vs H1 I1 r1 q1=>?_) hs rfl));obtain⟨j,e,q1,q2,q⟩:=q1;subst e;cases r1 with
 | cons r rr =>
  cases rr
  obtain⟨t,rfl⟩:=r
  exact call_range_1 (Cu I1 (by omega) (by omega) q1 q2 (by simpa using q))
noncomputable def OC(wi:TI)(g:TG)(tb:TS):TS:=λD σ H=>wi σ H λJ H1=> ∃ W:Nat->Nat->St->Hp->Prop,(∃ m,W 0 m σ H1)/\ ∀ i m σ H,W i m σ H ->
 (J.stop i H/\D.nx σ H)\/(J.go i H/\ ∃ N ,(∀ σ' H',N σ' H'-> ∃ m',m' < m/\W (i+1) m' σ' H')/\ ∀ x H',J.Hl i H x H'->g x σ H' fun σ2 H2=>tb { D with nx:=N,ct:=N,bk:=D.nx} σ2 H2)
noncomputable def sj(fp:List U0)(h:VO):=fp.filterMap λb=>(h.get? b).map λo=>(b,o)
theorem dw(hb:b∈fp)(e:h.get? b=fv o):(b,o)∈sj fp h:=aaT.mpr ⟨b,hb,by rw[e];rfl⟩
theorem yY(hp:p∈sj fp h):p.1∈fp/\h.get? p.1=fv p.2:=by
 obtain⟨b,hb,e⟩:=aaT.mp hp;cases q:h.get? b with
 | none=>simp_all
 | some o =>
  rw[q] at e
  have e':=Vx e
  subst e'
  exact⟨hb,q⟩
theorem Inv.pinned{σ :St}(I:Inv X pins σ H s)(hf: ∀ b∈fp,lZ X pins H b)(ho: ∀ b∈fp,∃ o,s.heap.get? b=fv o/\ ∀ v,o.data≠ .cell v):Inv X (pins++sj fp s.heap) σ H s :=
 I.iY λp hp=>(V6.mp hp).elim (λz=>I.pin p (U9 _ z)) λz=>by
  obtain⟨hb,e⟩:=yY z;obtain⟨f0,f1,f2,_⟩:=hf p.1 hb;obtain⟨o,e',d⟩:=ho p.1 hb;rw[e] at e';cases e';exact⟨e,f0,f1,f2,d⟩
theorem Inv.oG{σ :St}(I:Inv X (pins++pl) σ H s):Inv X pins σ H s:=I.iY λp hp=>I.pin p (U9 _ (Xm _ hp))
theorem Ld(hp:PassesOwn (U8 X.prog X.w) X.A X.env X.xe)(hc:X.calm=true)(hi:PI X tg iter wi)(hg:PG X tg g)(hb:vU X body tb)
  (hs: ∀ x,Vt iter X.env x=pure x:=by intro _;rfl):PS X (.For tg iter body [] pos) (OC wi g tb):=by
 intro pins s σ H D I h;refine wpAny_For (oF (hi pins s σ H _ I h) λv s1 h1=>oF h1 λitv s2 h2=>?_) hs;obtain ⟨it,fp,tn,J,H2,e,I2,T,st2,f2,W,⟨m0,w0⟩,turn⟩:=h2;subst e;have stat: ∀{H':Hp},(∀ b∈fp,H' b=UB)-> ∀ b∈fp,lZ X pins H' b:=λhn b hb=>⟨hn b hb,(f2 b hb).2⟩
 refine codeAny_forLoop_any (λn s'=> ∃ i σ' H',Inv X pins σ' H' s'∧tn i s'.heap∧(∀ b∈fp,H' b=UB)∧W i n σ' H') ?_ m0 ⟨0, σ,H2,I2,st2,λb hb=>(f2 b hb).1,w0⟩;rintro n s3 ⟨i, σ3,H3,I3,st3,fr3,w3⟩;rcases turn i n σ3 H3 w3 with ⟨stop,qn⟩ | ⟨go,N,hN,step⟩
 . refine XR hp (oF (T.done X rfl rfl rfl hc i pins s3 σ3 H3 X.xe I3 (stat fr3) st3 stop) λr s4 z9=>?_);obtain ⟨hr,I4⟩:=z9;subst hr;exact Yt ⟨σ3,H3,I4,qn⟩
 . refine XR hp (oF (T.item X rfl rfl rfl hc i pins s3 σ3 H3 X.xe I3 (stat fr3) st3 go) λr s4 z9=>?_);obtain⟨u,hr,h4⟩:=z9;subst hr;refine XR hp (oF h4 λ_ s5 z9=>?_);obtain⟨x,H5,I5,r5,y5,st5,fr5⟩:=z9;have I5':=I5.pinned (stat fr5) (T.obj _ _ st5);refine XR hp (oF (hg _ s5 σ3 H5 x u _ I5' r5 (step x H5 y5)) λ_ s6 z9=>?_);obtain⟨σ6,H6,I6,q6⟩:=z9;refine XR hp (oF (hb _ s6 σ6 H6 _ I6 q6) λf s7 q7=>?_);have again: ∀{σ7:St}{H7:Hp},Inv X (pins++sj fp s5.heap) σ7 H7 s7->N σ7 H7-> ∃ m,m < n∧ ∃ i σ' H',Inv X pins σ' H' s7∧tn i s7.heap∧(∀ b∈fp,H' b=UB)∧W i m σ' H':=λ{σ7 H7} I7 n7=>by
    obtain ⟨m',hm,w7⟩:=hN σ7 H7 n7;refine ⟨m',hm,i+1, σ7,H7,I7.oG,T.keep _ _ _ st5 λb hb o e=>(I7.pin (b,o) (U9 _ (U9 _ (dw hb e)))).1,λb hb=>?_,w7⟩;obtain ⟨o,e,d⟩:=T.obj _ _ st5 b hb;exact (I7.pin (b,o) (U9 _ (U9 _ (dw hb e)))).2.1
   cases f with
   | next=>obtain ⟨σ7,H7,I7,n7⟩:=q7;exact again I7 n7
   | cont=>obtain ⟨σ7,H7,I7,n7⟩:=q7;exact again I7 n7
   | brk=>obtain ⟨σ7,H7,I7,q7⟩:=q7;exact ⟨σ7,H7,I7.oG,q7⟩
   | ret v=>obtain ⟨x7, σ7,H7,I7,r7,q7⟩:=q7;exact ⟨x7, σ7,H7,I7.oG,r7,q7⟩
end
abbrev R2:=V->V->Hp->VK->Prop
def cC X (f:UH->UH->Sem UH) (r:R2) :=
 ∀ pins s(σ :St) H x y v u Q,Inv X pins σ H s->RelV x v->RelV y u->r x y H Q ->
  U2 (U8 X.prog X.w) X.A (f v u) (EP X pins σ Q) X.xe s
def aM X (f:UH) (r:List V->Hp->VK->Prop) :=
 ∀ pins s(σ :St) H xs us Q,Inv X pins σ H s->Vals xs us->r xs H Q ->
  U2 (U8 X.prog X.w) X.A (call f us) (EP X pins σ Q) X.xe s
noncomputable def FZ(r:R2)(ta tb:TE):TE:=fun σ H Q=>ta σ H λx H1=>tb σ H1 λy H2=>r x y H2 Q
noncomputable def rI(C:Int->Int->Prop)(g:Int->Int->V):R2:=λx y H Q=> ∃ i j,x= .int i/\y= .int j/\C i j/\Q (g i j) H
noncomputable def Fq(g:Int->Int->V):R2:=λx y H Q=> ∃ i j,x= .int i/\y= .int j/\Q (g i j) H
section
variable{X:Cx}{a b c:Vu}{ta tb tc:TE}{pos:Pos}
theorem IV(ha:PE X a ta)(hb:PE X b tb){σ :St}{R:V->V->Hp->Prop}(I:Inv X pins σ H s)
  (h:ta σ H λx H1=>tb σ H1 λy H2=>R x y H2) {f:UH->UH->Sem UH}
  (hf: ∀ v u s2 x y H2,Inv X pins σ H2 s2->RelV x v->RelV y u->R x y H2->U2 (U8 X.prog X.w) X.A (f v u) Q X.xe s2) :
  U2 (U8 X.prog X.w) X.A (Wt a X.env) (λv s₁ =>U2 (U8 X.prog X.w) X.A (Wt b X.env) (λu s₂ =>U2 (U8 X.prog X.w) X.A (f v u) Q X.xe s₂) X.xe s₁) X.xe s:=by
 refine gZ (ha pins s σ H _ I h) λv s1 x H1 I1 r1 q1=>?_;refine gZ (hb pins s1 σ H1 _ I1 q1) λu s2 y H2 I2 r2 q2=>?_;exact hf v u s2 x y H2 I2 r1 r2 q2
theorem NL(ho:cC X (VX op) r)(ha:PE X a ta)(hb:PE X b tb):PE X (.BinOp a op b pos) (FZ r ta tb):=by
 intro pins s σ H Q I h;exact wpAny_BinOp (IV ha hb I h λv u s2 x y H2 I2 rx ry q=>ho pins s2 σ H2 x y v u Q I2 rx ry q)
theorem Qq{f:UH->UH->Sem UH}{C:Int->Int->Prop}{g:Int->Int->Int}
  (rule: ∀(i j:Int)(t u:Tok)(s:UM)(Q:UH->UM->Prop)(E:UH->UM->Prop),C i j->Q (.int (g i j) s.toks) { s with toks:=s.toks+1}->U2 (U8 X.prog X.w) X.A (f (.int i t) (.int j u)) Q E s) :
  cC X f (rI C λi j=> .int (g i j)):=by
 intro pins s σ H x y v u Q I rx ry h;obtain⟨i,j,rfl,rfl,hc,q⟩:=h;obtain⟨t,rfl⟩:=rx;obtain⟨t',rfl⟩:=ry;exact rule i j t t' s _ _ hc ⟨.int (g i j),H,I.tok _,⟨_,rfl⟩,q⟩
theorem Qf{f:UH->UH->Sem UH}{g:Int->Int->Int}
  (rule: ∀(i j:Int)(t u:Tok)(s:UM)(Q:UH->UM->Prop)(E:UH->UM->Prop),Q (.int (g i j) s.toks) { s with toks:=s.toks+1}->U2 (U8 X.prog X.w) X.A (f (.int i t) (.int j u)) Q E s) :
  cC X f (Fq λi j=> .int (g i j)):=by
 intro pins s σ H x y v u Q I rx ry h;obtain⟨i,j,rfl,rfl,q⟩:=h;obtain⟨t,rfl⟩:=rx;obtain⟨t',rfl⟩:=ry;exact rule i j t t' s _ _ ⟨.int (g i j),H,I.tok _,⟨_,rfl⟩,q⟩
theorem LJ{f:UH->UH->Sem UH}{g:Int->Int->Bool}
  (rule: ∀(i j:Int)(t u:Tok)(s:UM)(Q:UH->UM->Prop)(E:UH->UM->Prop),Q (.bool (g i j)) s->U2 (U8 X.prog X.w) X.A (f (.int i t) (.int j u)) Q E s) :
  cC X f (Fq λi j=> .bl (g i j)):=by
 intro pins s σ H x y v u Q I rx ry h;obtain⟨i,j,rfl,rfl,q⟩:=h;obtain⟨t,rfl⟩:=rx;obtain⟨t',rfl⟩:=ry;exact rule i j t t' s _ _ ⟨.bl (g i j),H,I,rfl,q⟩
def Ra(i j:Int):=0<=j/\j<=1000000/\i.natAbs < 2 ^ 64
def HL i j:=(-(2 ^ 64) < i/\i < 2 ^ 64)\/(-(2 ^ 64) < j/\j < 2 ^ 64)
theorem HL.ok(h:HL i j):IntMulOk i j:=by
 rcases h with⟨h1,h2⟩ | ⟨h1,h2⟩
 . exact .of_left (intBits_le_64 h1 h2)
 . exact .of_right (intBits_le_64 h1 h2)
theorem KI:cC X (VX .Add) (Fq λi j=> .int (i+j)):=Qf λ_ _ _ _ _ _ _ q=>add_int q
theorem L4:cC X (VX .Sub) (Fq λi j=> .int (i - j)):=Qf λ_ _ _ _ _ _ _ q=>sub_int q
theorem LS:cC X (VX .Mult) (rI HL λi j=> .int (i*j)):=Qq λ_ _ _ _ _ _ _ hc q=>mul_int q hc.ok
theorem Iw:cC X (VX .Mod) (rI (λ_ j=>0 < j) λi j=> .int (i % j)):=Qq λi j _ _ _ _ _ hc q=>by
 exact mod_int' (by omega) (by rw[Int.fmod_eq_emod_of_nonneg i (by omega)];exact q)
theorem Me:cC X (VX .Pow) (rI Ra λi j=> .int (i ^ j.toNat)):=Qq λ_ _ _ _ _ _ _ hc q=>pow_int_small hc.1 hc.2.1 hc.2.2 q
end
noncomputable def Ds:V->V->Bool
 | .non,.non=>true | .non,.int _=>true | .int _,.non=>true | .non,.bl _=>true | .bl _,.non=>true | .non,.str _=>true | .str _,.non=>true
 | .int _,.int _=>true | .bl _,.bl _=>true | .str _,.str _=>true | .byt _,.byt _=>true
 | .int _,.str _=>true | .str _,.int _=>true | .bl _,.str _=>true | .str _,.bl _=>true
 | _,_=>false
def Uk:R2:=λx y H Q=>Ds x y=true/\Q (.bl (decide (x=y))) H
def Ut:R2:=λx y H Q=>Ds x y=true/\Q (.bl (!decide (x=y))) H
theorem xg:decide (V.int i=V.int j)=(i == j):=by
 rw[Yv];simp
theorem Ct:decide (V.bl i=V.bl j)=(i == j):=by
 rw[Yv];simp
theorem ye:decide (V.str i=V.str j)=(i == j):=by
 rw[Yv];simp
theorem xO:decide (V.byt i=V.byt j)=(i.toList == j.toList):=by
 rw[Yv];cases i;cases j;simp
section
variable{X:Cx}{a b c:Vu}{ta tb tc:TE}{pos:Pos}
theorem aV{pins:List (U0 × Obj)}{σ :St}{H:Hp}{s:UM}{Q:VK}{k k':Bool}(I:Inv X pins σ H s)(q:Q (.bl k) H)(e:k=k'):EP X pins σ Q (.bool k') s:=by
 subst e;exact⟨.bl k,H,I,rfl,q⟩
theorem Qg:cC X (Vf .Eq) Uk:=by
 intro pins s σ H x y v u Q I rx ry h;obtain⟨hs,q⟩:=h;cases x with
 | non =>
  cases rx
  cases y with
  | non=>cases ry;exact PySem.EqNone.eq_none_none (aV I q (by simp))
  | bl j=>cases ry;exact PySem.EqNone.eq_none_bool (aV I q (by simp))
  | int j=>obtain⟨t',rfl⟩:=ry;exact PySem.EqNone.eq_none_int (aV I q (by simp))
  | str j=>obtain⟨t',rfl⟩:=ry;exact PySem.EqNone.eq_none_str (aV I q (by simp))
  | _=>exact absurd (show false=true from hs) U4
 | bl i =>
  cases rx
  cases y with
  | non=>cases ry;exact PySem.EqNone.eq_bool_none (aV I q (by simp))
  | bl j=>cases ry;exact eq_bool (aV I q Ct)
  | str j=>obtain⟨t',rfl⟩:=ry;exact PySem.EqMixed.eq_bool_str (aV I q (by simp))
  | _=>exact absurd (show false=true from hs) U4
 | int i =>
  obtain⟨t,rfl⟩:=rx
  cases y with
  | non=>cases ry;exact PySem.EqNone.eq_int_none (aV I q (by simp))
  | int j=>obtain⟨t',rfl⟩:=ry;exact eq_int (aV I q xg)
  | str j=>obtain⟨t',rfl⟩:=ry;exact PySem.EqMixed.eq_int_str (aV I q (by simp))
  | _=>exact absurd (show false=true from hs) U4
 | str i =>
  obtain⟨t,rfl⟩:=rx
  cases y with
  | non=>cases ry;exact PySem.EqNone.eq_str_none (aV I q (by simp))
  | bl j=>cases ry;exact PySem.EqMixed.eq_str_bool (aV I q (by simp))
  | int j=>obtain⟨t',rfl⟩:=ry;exact PySem.EqMixed.eq_str_int (aV I q (by simp))
  | str j=>obtain⟨t',rfl⟩:=ry;exact eq_str (aV I q ye)
  | _=>exact absurd (show false=true from hs) U4
 | byt i =>
  obtain⟨t,rfl⟩:=rx
  cases y with
  | byt j=>obtain⟨t',rfl⟩:=ry;exact PySem.W.eq_bytes (aV I q xO)
  | _=>exact absurd (show false=true from hs) U4
 | _=>cases y<;>exact absurd (show false=true from hs) U4
theorem NK:cC X (Vf .NotEq) Ut:=by
 intro pins s σ H x y v u Q I rx ry h;obtain⟨hs,q⟩:=h;cases x with
 | non =>
  cases rx
  cases y with
  | non=>cases ry;exact PySem.EqNone.ne_none_none (aV I q (by simp))
  | bl j=>cases ry;exact PySem.EqNone.ne_none_bool (aV I q (by simp))
  | int j=>obtain⟨t',rfl⟩:=ry;exact PySem.EqNone.ne_none_int (aV I q (by simp))
  | str j=>obtain⟨t',rfl⟩:=ry;exact PySem.EqNone.ne_none_str (aV I q (by simp))
  | _=>exact absurd (show false=true from hs) U4
 | bl i =>
  cases rx
  cases y with
  | non=>cases ry;exact PySem.EqNone.ne_bool_none (aV I q (by simp))
  | bl j=>cases ry;exact ne_bool (aV I q (congrArg not Ct))
  | str j=>obtain⟨t',rfl⟩:=ry;exact PySem.EqMixed.ne_bool_str (aV I q (by simp))
  | _=>exact absurd (show false=true from hs) U4
 | int i =>
  obtain⟨t,rfl⟩:=rx
  cases y with
  | non=>cases ry;exact PySem.EqNone.ne_int_none (aV I q (by simp))
  | int j=>obtain⟨t',rfl⟩:=ry;exact ne_int (aV I q (congrArg not xg))
  | str j=>obtain⟨t',rfl⟩:=ry;exact PySem.EqMixed.ne_int_str (aV I q (by simp))
  | _=>exact absurd (show false=true from hs) U4
 | str i =>
  obtain⟨t,rfl⟩:=rx
  cases y with
  | non=>cases ry;exact PySem.EqNone.ne_str_none (aV I q (by simp))
  | bl j=>cases ry;exact PySem.EqMixed.ne_str_bool (aV I q (by simp))
  | int j=>obtain⟨t',rfl⟩:=ry;exact PySem.EqMixed.ne_str_int (aV I q (by simp))
  | str j=>obtain⟨t',rfl⟩:=ry;exact ne_str (aV I q (congrArg not ye))
  | _=>exact absurd (show false=true from hs) U4
 | byt i =>
  obtain⟨t,rfl⟩:=rx
  cases y with
  | byt j=>obtain⟨t',rfl⟩:=ry;exact PySem.W.ne_bytes (aV I q (congrArg not xO))
  | _=>exact absurd (show false=true from hs) U4
 | _=>cases y<;>exact absurd (show false=true from hs) U4
theorem Qb:cC X (Vf .Lt) (Fq λi j=> .bl (decide (i < j))):=LJ λ_ _ _ _ _ _ _ q=>lt_int q
theorem OL:cC X (Vf .LtE) (Fq λi j=> .bl (decide (i<=j))):=LJ λ_ _ _ _ _ _ _ q=>le_int q
theorem M5:cC X (Vf .Gt) (Fq λi j=> .bl (decide (j < i))):=LJ λ_ _ _ _ _ _ _ q=>gt_int q
theorem zI:cC X (Vf .In) (λx y H Q=> ∃ i j,x= .str i/\y= .str j/\Q (.bl (!(W5 j i 0 j.length 1).isEmpty)) H):=by
 intro pins s σ H x y v u Q I rx ry h;obtain⟨i,j,rfl,rfl,q⟩:=h;obtain⟨t,rfl⟩:=rx;obtain⟨t',rfl⟩:=ry;exact in_str (aV I q rfl)
theorem cC.or(h:cC X f r)(h':cC X f r'):cC X f (λx y H Q=>r x y H Q\/r' x y H Q):=by
 intro pins s σ H x y v u Q I rx ry q;rcases q with q | q
 . exact h pins s σ H x y v u Q I rx ry q
 . exact h' pins s σ H x y v u Q I rx ry q
theorem Ae b (h:op≠ .In:=by decide) (h2:op≠ .NotIn:=by decide):V1 op b=false:=by
 have e1:(op == CmpOp.In)=false:=by simp_all
 have e2:(op == CmpOp.NotIn)=false:=by simp_all
 cases b<;>simp[V1,e1,e2]
theorem Dw(ho:cC X (Vf op) r)(ha:PE X a ta)(hb:PE X b tb)(hm:V1 op b=false):PE X (.Compare a [op] [b] pos) (FZ r ta tb):=by
 intro pins s σ H Q I h;exact wpAny_Compare1 (IV ha hb I h λv u s2 x y H2 I2 rx ry q=>ho pins s2 σ H2 x y v u Q I2 rx ry q) hm
noncomputable def Bv(t:TE):TT:=fun σ H Q=>t σ H λx H'=> ∃ k,x= .bl k/\Q k H'
theorem D1(ho:cC X (Vf op) r)(ha:PE X a ta)(hb:PE X b tb)(hm:V1 op b=false):PT X (.Compare a [op] [b] pos) (Bv (FZ r ta tb)):=by
 intro pins s σ H Q I h;refine Z9 (gZ (ha pins s σ H _ I h) λv s1 x H1 I1 r1 q1=>gZ (hb pins s1 σ H1 _ I1 q1) λu s2 y H2 I2 r2 q2 =>
  gZ (ho pins s2 σ H2 x y v u _ I2 r1 r2 q2) λc s3 z H3 I3 r3 ⟨k,e,q3⟩=>?_) hm
 subst e;cases r3;exact Wy ⟨H3,I3,q3⟩
noncomputable def vz(r r':R2)(ta tb tc:TE):TE:=fun σ H Q=>ta σ H λx H1=>tb σ H1 λy H2=>r x y H2 λz H3=> ∃ k,z= .bl k /\
 (if k=true then tc σ H3 λw' H4=>r' y w' H4 Q else Q (.bl false) H3)
theorem Aq(ho:cC X (Vf op) r)(ho':cC X (Vf op') r')(ha:PE X a ta)(hb:PE X b tb)(hc:PE X c tc)
  (hm:lastMarks [op,op'] [b,c]=false:=by with_unfolding_all rfl):PE X (.Compare a [op,op'] [b,c] pos) (vz r r' ta tb tc):=by
 intro pins s σ H Q I h;refine Compare_chain (gZ (ha pins s σ H _ I h) λv s1 x H1 I1 r1 q1=>chain_link (gZ (hb pins s1 σ H1 _ I1 q1) λu s2 y H2 I2 r2 q2 =>
  gZ (ho pins s2 σ H2 x y v u _ I2 r1 r2 q2) λd s3 z H3 I3 r3 ⟨k,e,q3⟩=>?_)) hm
 subst e;cases r3;refine Wy ?_;cases k with
 | false=>exact ite_ff ⟨.bl false,H3,I3,rfl,q3⟩
 | true=>exact ite_tt (chain_last (gZ (hc pins s3 σ H3 _ I3 q3) λw' s4 z' H4 I4 r4 q4=>ho' pins s4 σ H4 y z' u w' Q I4 r2 r4 q4))
theorem kP:(UK) < 2 ^ 63:=by decide
theorem vals1(r:Vals [x] us): ∃ u,us=[u]/\RelV x u:=by
 cases r with
 | cons r1 r2=>cases r2;exact⟨_,rfl,r1⟩
theorem vals2(r:Vals [x,y] us): ∃ u w',us=[u,w']/\RelV x u/\RelV y w':=by
 cases r with
 | cons r1 r2 =>
  cases r2 with
  | cons r3 r4=>cases r4;exact⟨_,_,rfl,r1,r3⟩
theorem BR:aM X (.builtin "abs") (λxs H Q=> ∃ i,xs=[.int i]/\Q (.int (if i < 0 then -i else i)) H):=by
 intro pins s σ H xs us Q I r h;obtain⟨i,rfl,q⟩:=h;obtain⟨u,rfl,t,rfl⟩:=vals1 r;exact call_abs_int λu tk=>⟨.int (if i < 0 then -i else i),H,I.tok _,⟨_,rfl⟩,q⟩
theorem yz:aM X (.type "int") (λxs H Q=>(∃ i,xs=[.int i]/\Q (.int i) H)\/ ∃ k,xs=[.bl k]/\Q (.int (if k then 1 else 0)) H):=by
 intro pins s σ H xs us Q I r h;rcases h with⟨i,rfl,q⟩ | ⟨k,rfl,q⟩
 . obtain⟨u,rfl,t,rfl⟩:=vals1 r;exact call_int_int ⟨.int i,H,I,⟨_,rfl⟩,q⟩
 . obtain⟨u,rfl,r1⟩:=vals1 r;cases r1;exact call_int_bool ⟨.int (if k then 1 else 0),H,I.tok _,⟨_,rfl⟩,q⟩
end
structure MF(h:VO)(x dx C:U0)(mA:Str->Option UH):Prop where
 obj:h.get? x=fv (WM C dx)
 ns:h.Ns1 dx mA
 ne:dx≠x
theorem yw{h:VO}(n:h.Ns1 dx mA): ∃ od,h.get? dx=fv od/\ ∀ name,aaj name od=fv (mA name):=by
 obtain⟨o,es,ep,ho,hd,hk,_,hm⟩:=n;refine⟨o,ho,λname=>?_⟩;have e:=hm name;unfold nsFind findBy at e;rw[<- Array.find?_toList] at e;unfold aaj;rw[hd];dsimp only;split
 . rename_i y q;rw[q] at e;exact congrArg fv e
 . rename_i q;rw[q] at e;have a:es.toList.any (·.refKey)=false:=by
    rw[List.any_eq_false];intro y hy;obtain⟨z,t,hkey⟩:=hk y (Array.mem_toList_iff.mp hy);simp[DictEntry.refKey,hkey]
   have a': ¬ es.toList.any (·.refKey)=true:=by rw[a];exact U4
   rw[if_neg a'];exact congrArg fv e
theorem MF.look(I:MF h x dx C mA): ∃ od,PySem.W.InstAt h x (WM C dx) C (fv od)/\ ∀ name,aaj name od=fv (mA name) :=
 by obtain⟨od,ho,hl⟩:=yw I.ns;exact⟨od,⟨I.obj,rfl,rfl,ho⟩,hl⟩
theorem kb.some_of(r:kb (fv v) o): ∃ u,o=fv u/\RelV v u:=by
 cases o with
 | none=>exact(show False from r).elim
 | some u=>exact⟨u,rfl,r⟩
section
variable{P:Vl}{w:VE}{H H':Hp}{h h':VO}{a C dx:U0}{fs fs':List (Str × V)}
theorem Fb(bb:jl P w H h)(e:H a=fv (.ins C dx fs)): ∃ mA,MF h a dx C mA/\(∀ f,kb (fs.lookup f) (mA f))/\ab2 mA (fs.map (·.1))/\fs.length<=1000/\H dx=fv (.own a):=by
 obtain⟨d,z,ne,ob,mA,n,r,q⟩:=(show aW P w H h a (.ins C dx fs) from bb a _ e)
 exact⟨mA,⟨ob,n,ne⟩,r,q,z,d⟩
end
structure Q8(K:UC)(C:U0):Prop where
 pg:abo K C Str.empty=true
 hd:PySem.W.hasDictIn K C=true
 po:PySem.W.plainOver K C=true
 sa:W6 K (.ref C) "__setattr__" =fv (fv (.builtin "object.__setattr__"))
theorem Q8.get{K}(c:Q8 K C) f:abo K C f=true:=c.pg
def BG(K:UC)(C:U0)(f:Str):Prop:=W6 K (.ref C) f=fv UB
theorem BG.SX{K:UC}{C:U0}{f:Str}(n:BG K C f):abL K C f=fv UB:=by
 unfold abL;rw[show W6 K (.ref C) f=fv UB from n];rfl
structure Uz(K:UC)(C:U0)(f:Str)(v:V)(u:UH):Prop where
 at_:W6 K (.ref C) f=fv (fv u)
 rel:RelV v u
 get:aa3 K u "__get__" =fv UB
 cp:PySem.W.copiedNames.contains f=false
structure Meth(K:UC)(C:U0)(m:Str)(f:U0):Prop where
 at_:W6 K (.ref C) m=fv (fv (.ref f))
 fn:ab4 K (.ref f)=true
 kp:W7 K (.ref f)=true
section
variable{X:Cx}{pins:List (U0 × Obj)}{σ :St}{H:Hp}{s:UM}{a C dx:U0}{fs:List (Str × V)}{f:Str}{v:V}{A:Wf}{E:UH->UM->Prop}
theorem Inv.made(I:Inv X pins σ H s):Inv X pins σ (upd (upd H s.heap.objs.size (.own (s.heap.objs.size+1))) (s.heap.objs.size+1) (.ins C s.heap.objs.size []))
  { s with heap:=(s.heap.push Wh).push (WM C s.heap.objs.size)}:=by
 have e1:(s.heap.push Wh).get? s.heap.objs.size=fv Wh:=UY s.heap rfl;have e2:((s.heap.push Wh).push (WM C s.heap.objs.size)).get? (s.heap.objs.size+1)=fv (WM C s.heap.objs.size):=by
  have:=UY (s.heap.push Wh) (o:=WM C s.heap.objs.size) rfl
  rwa [Vy] at this
 have e3:(s.heap.push Wh).Ns s.heap.objs.size (λ_=>UB):=⟨Wh, #[],_,e1,rfl,(λe he=>absurd he (by simp)),λ_=>rfl⟩
 have I1:=I.laid (a:=s.heap.objs.size) (o:= .own (s.heap.objs.size+1)) (h':=s.heap.push Wh) (t':=s.toks) (λb u q=>UD _ q) (UL _) ⟨_,e1⟩;refine I1.laid (a:=s.heap.objs.size+1) (o:= .ins C s.heap.objs.size []) (t':=s.toks) (λb u q=>UD _ q) (Nat.le_of_eq (Vy _ _)) ?_;have ne:s.heap.objs.size≠s.heap.objs.size+1:=U7 (Zw _);refine⟨by rw[ax ne,a9],Vw _,ne,e2,λ_=>UB,(Heap.Ns1.of_empty e3).at λo q=>UD _ q,λ_=>WI,λy hy=>absurd rfl hy⟩
end
section
variable{X:Cx}{pins:List (U0 × Obj)}{σ :St}{H:Hp}{s:UM}{A:Wf}{E:UH->UM->Prop}{Q:UH->UM->Prop}{c:UH}{b:Bool}
inductive jb(K:UC)(H:Hp):V->UH->Prop where
 | non:jb K H .non (.type "NoneType")
 | bl (x:Bool):jb K H (.bl x) (.type "bool")
 | int (i:Int):jb K H (.int i) (.type "int")
 | str (x:Str):jb K H (.str x) (.type "str")
 | flt (x:UInt64):jb K H (.flt x) (.type "float")
 | lst {a:U0} {xs:List V} (e:H a=fv (.lst xs)):jb K H (.ref a) (.type "list")
 | jx {a:U0} {o:Obj} {xs:List V} (e:H a=fv (.jx o (.lst xs))):jb K H (.ref a) (.type "list")
 | tup {a:U0} {xs:List V} (e:H a=fv (.tup xs)):jb K H (.ref a) (.type "tuple")
 | dK {a:U0} {kvs:List (Key × V)} (e:H a=fv (.dK kvs)):jb K H (.ref a) (.type "dict")
 | dT {a:U0} {kvs:List (List Key × V)} (e:H a=fv (.dT kvs)):jb K H (.ref a) (.type "dict")
 | ins {a C dx:U0} {fs:List (Str × V)} (e:H a=fv (.ins C dx fs)) (cl:Q8 K C) (ha:W6 K (.ref C) "__class__" =fv (fv (.builtin "object.__class__")))
   (hn:aa3 K (.builtin "object.__class__") "__get__" =fv (fv (.builtin "getset_descriptor.__get__"))) (htk:PySem.W.takesIn K (.builtin "object.__class__")=fv true)
   (hm:PySem.W.mroIn K C (.type "object")=fv true):jb K H (.ref a) (.ref C)
theorem zw{x:V}{u t:UH}(I:Inv X pins σ H s)(rx:RelV x u)(ty:jb X.K H x t)(e:YR X.K t c=fv b)(h: ∀ tk,Q (.bool b) { s with toks:=tk}) :
  U2 (U8 X.prog X.w) A (call (.builtin "isinstance") [u,c]) Q E s:=by
 cases ty with
 | non=>cases(show u=WU from rx);exact VQ PySem.W.kitx_none I.ky WI e (λz=>by cases z) h
 | bl y=>cases(show u=ZJ y from rx);exact VQ PySem.W.kitx_bool I.ky WI e (λz=>by cases z) h
 | int i=>obtain⟨t,q⟩:=(show ∃ t,u=Xq i t from rx);cases q;exact VQ PySem.W.kitx_int I.ky WI e (λz=>by cases z) h
 | str y=>obtain⟨t,q⟩:=(show ∃ t,u=Yg y t from rx);cases q;exact VQ PySem.W.kitx_str I.ky WI e (λz=>by cases z) h
 | flt y=>obtain⟨t,q⟩:=(show ∃ t,u=abB y t from rx);cases q;exact VQ abU I.ky WI e (λz=>by cases z) h
 | @lst a xs ea =>
  cases(show u=U6 a from rx)
  obtain⟨_,_,n,_,h1⟩:=(show aW X.prog X.w H s.heap a (.lst xs) from I.bb a _ ea)
  exact VQ Zk I.ky ⟨_,h1,rfl⟩ e (λz=>nomatch z) h
 | @jx a ob xs ea =>
  cases(show u=U6 a from rx)
  obtain⟨_,_,_,n,_,h1⟩:=(show aW X.prog X.w H s.heap a (.jx ob (.lst xs)) from I.bb a _ ea)
  exact VQ Zk I.ky ⟨_,h1,rfl⟩ e (λz=>nomatch z) h
 | @tup a xs ea =>
  cases(show u=U6 a from rx)
  obtain⟨_,_,_,p⟩:=(show aW X.prog X.w H s.heap a (.tup xs) from I.bb a _ ea)
  obtain⟨o,h1,h2,_⟩:=p
  exact VQ abV I.ky ⟨o,h1,h2⟩ e (λz=>nomatch z) h
 | @dK a kvs ea =>
  cases(show u=U6 a from rx)
  obtain⟨_,_,vs,_,p⟩:=(show aW X.prog X.w H s.heap a (.dK kvs) from I.bb a _ ea)
  obtain⟨o,es,ep,h1,h2,_⟩:=p
  exact VQ Zl I.ky ⟨o,h1,h2.1⟩ e (λz=>nomatch z) h
 | @dT a kvs ea =>
  cases(show u=U6 a from rx)
  obtain⟨_,_,xs,_,o,es,ep,h1,h2,_⟩:=(show aW X.prog X.w H s.heap a (.dT kvs) from I.bb a _ ea)
  exact VQ Zl I.ky ⟨o,h1,h2.1⟩ e (λz=>nomatch z) h
 | @ins a C dx fs ea cl ha hn htk hm =>
  cases(show u=U6 a from rx)
  obtain⟨mA,O,_⟩:=Fb I.bb ea
  obtain⟨od,J,_⟩:=O.look
  exact VQ (PySem.W.kitx_own (cl.get _) cl.hd ha hn htk hm) I.ky J e (λz=>nomatch z) h
end
structure cO(k:Nat)(A:Wf):Prop where
 hd:A.handled=UB
 dp:A.depth+3*k+5 < recursionLimit
 un:A.units+16*k+200 < XD
 gd:A.guards=fv []
theorem cO.mono(r:cO k A)(h:j<=k):cO j A:=⟨r.hd,by have:=r.dp;omega,by have:=r.un;omega,r.gd⟩
theorem cO.deeper(r:cO (k+1) A) env:cO k (A.deeper env) :=
 ⟨r.hd,by have:=r.dp;show A.depth+1+3*k+5 < _;omega,by have:=r.un;show A.units+3+16*k+200 < _;omega,r.gd⟩
theorem cO.in1(r:cO (k+1) A):cO k A.in1 :=
 ⟨r.hd,by have:=r.dp;show A.depth+3*k+5 < _;omega,by have:=r.un;show A.units+1+16*k+200 < _;omega,r.gd⟩
theorem cO.depth(r:cO k A):A.depth < recursionLimit:=by have:=r.dp;omega
theorem cO.units(r:cO k A):A.units+64 < XD:=by have:=r.un;omega
theorem cO.Kj(r:cO k A):A.units < XD:=by have:=r.un;omega
noncomputable def Oy:TA:=λ_ H Q=>Q [] H
noncomputable def AO(ta:TE)(tr:TA):TA:=fun σ H Q=>ta σ H λx H1=>tr σ H1 λxs H2=>Q (x::xs) H2
section
variable{X:Cx}{e:Vu}{es:List Vu}{te:TE}{t:TA}{pos:Pos}
theorem Il:PA X [] Oy:=λ_ _ _ _ H Q I h=>Za ⟨[],H,I,.nil,h⟩
theorem E1(ha:PE X e te)(hr:PA X es t)(hs:Vk (e::es) X.env=(false,Wt e X.env)::Vk es X.env:=by rfl):PA X (e::es) (AO te t):=by
 intro pos pins s σ H Q I h;rw[hs];show U2 _ _ (spliced ((false,Wt e X.env)::Yh pos (Vk es X.env))) _ _ s;refine XW (gZ (ha pins s σ H _ I h) λu s1 x H1 I1 r1 q1=>?_);exact Ad (hr pos pins s1 σ H1 _ I1 q1) λus s2 xs H2 I2 r2 q2=>⟨x::xs,H2,I2,.cons r1 r2,q2⟩
def Pp(t:TA):TE:=fun σ H Q=>t σ H λxs H1=>xs.length<=UK/\ ∀ p,H1 p=UB->Q (.ref p) (upd H1 p (.tup xs))
def Nm(t:TA):TE:=fun σ H Q=>t σ H λxs H1=>xs.length<=UK/\ ∀ p,H1 p=UB->Q (.ref p) (upd H1 p (.lst xs))
theorem K6(h:PA X es t):PE X (.Tuple es x1 pos) (Pp t):=by
 intro pins s σ H Q I hq;refine wpAny_Tuple_spliced (Ad (h pos pins s σ H _ I hq) λus s1 xs H1 I1 r ⟨z,q⟩=>⟨by rw[<- r.length];exact z,?_⟩);have hf:=I1.bb.fresh (UL _);refine⟨.ref s1.heap.objs.size,upd H1 s1.heap.objs.size (.tup xs),I1.laid (t':=s1.toks) (λb u e=>UD _ e) (UL _) ?_,rfl,q _ hf⟩;exact⟨z,us,r,⟨_,UY _ rfl,rfl,_,rfl,rfl⟩⟩
theorem IG(h:PA X es t):PE X (.List es pos) (Nm t):=by
 intro pins s σ H Q I hq;refine wpAny_List_spliced (Ad (h pos pins s σ H _ I hq) λus s1 xs H1 I1 r ⟨z,q⟩=>⟨by rw[<- r.length];exact z,?_⟩);have hf:=I1.bb.fresh (UL _);refine⟨.ref s1.heap.objs.size,upd H1 s1.heap.objs.size (.lst xs),I1.laid (t':=s1.toks) (λb u e=>UD _ e) (UL _) ?_,rfl,q _ hf⟩;exact⟨z,us,0,r,UY _ rfl⟩
end
abbrev Sp:=List V->Hp->VK->XK->Prop
abbrev Hr:=List Env->Hp->UM->XK->UH->UM->Prop
structure wj(P:Vl)(w:VE)(K:UC)(mg:Str->Option UH)(base:VO)(A:Wf)(outer:List Env)(s:UM)(H:Hp):Prop where
 frames:A.frames=fv outer
 mod:Mod K mg base
 bs: ∀ b o,base.get? b=fv o->s.heap.get? b=fv o/\H b=UB
 Dk:base.objs.size<=s.heap.objs.size
 kA:s.heap.FunFrames base outer
 Hi: ∀ b∈zV outer,H b=UB
 bb:jl P w H s.heap
 bare:Y8 s.gens
def CE(outer:List Env)(P:Vl)(w:VE) H (s:UM) (Q:VK) (u:UH) (s':UM) :=
 ∃ v H',s'.os=s.os/\Y8 s'.gens/\Un (zV outer) [] H H' s.heap s'.heap/\jl P w H' s'.heap/\RelV v u/\Q v H'
def CR(CX:Hr)(outer:List Env)(P:Vl)(w:VE) H (s:UM) Q E (r:Result) (s':UM) :=
 match r with
 | .ok (.ret u)=>CE outer P w H s Q u s'
 | .ok _=>False
 | .error e=>CX outer H s E e s'
structure j4(P:Vl)(w:VE)(K:UC)(mg:Str->Option UH)(base:VO)(CX:Hr)(k:Nat)(f:U0)(fd:XE)(ps:List Str)(sp:Sp):Prop where
 len: ∀ vs H Q E,sp vs H Q E->vs.length=ps.length
 run: ∀(A:Wf)(outer:List Env)(s:UM)(H:Hp)(args:Args)(us:List UH)(vs:List V)(Q:VK)(E:XK),cO k A->wj P w K mg base A outer s H->ZL s fd args (ps.zip us)->Vals vs us->sp vs H Q E ->
  ZM (U8 P w) A (.call (.ref f) args) (CR CX outer P w H s Q E) s
theorem j4.imp{K}(F:j4 P w K mg base CX k f fd ps sp)
  (h: ∀ vs H Q E,sp' vs H Q E->sp vs H Q E):j4 P w K mg base CX k f fd ps sp' :=
 ⟨λvs H Q E q=>F.len vs H Q E (h _ _ _ _ q),λA outer s H args us vs Q E hr he hb hv hs=>F.run A outer s H args us vs Q E hr he hb hv (h _ _ _ _ hs)⟩
theorem wj.in1{K}(e:wj P w K mg base A outer s H) :
  wj P w K mg base A.in1 outer s H:=⟨e.frames,e.mod,e.bs,e.Dk,e.kA,e.Hi,e.bb,e.bare⟩
section
variable{X:Cx}{pins:List (U0 × Obj)}{σ :St}{H:Hp}{s s':UM}
theorem Inv.Rn(I:Inv X pins σ H s):wj X.prog X.w X.K X.mg X.base X.A X.stack s H :=
 ⟨I.ok.frames,I.ok.mod,I.bs,Va I.ok.Dk I.sz,I.stack,I.xS,I.bb,I.bare⟩
theorem Inv.after(I:Inv X pins σ H s)(h:CE X.stack X.prog X.w H s Q u s'):EP X pins σ Q u s':=by
 obtain⟨v,H',os,bare,un,bb,r,q⟩:=h;obtain⟨hh,g,d,t,os'⟩:=s';obtain rfl:os'=s.os:=os;exact⟨v,H',I.call (h':=hh) (g':=g) (d':=d) (t':=t) (ch:=[]) un bb bare (λb z=>absurd z (by simp)),r,q⟩
end
noncomputable def ya(sp:Sp)(Eo:List V)(E:XK)(t:TA):TE:=fun σ H Q=>t σ H λvs H1=>sp (vs++Eo) H1 Q E
def Binds(K:UC)(fd:XE)(ps:List Str)(ds:List UH) :=
 ∀ s us,K.In s.heap->(us++ds).length=ps.length->ZL s fd ⟨us,[]⟩ (ps.zip (us++ds))
theorem Binds.all{K}(h: ∀ us ,us.length=ps.length->XF fd ⟨us,[]⟩=pure (ps.zip us)):Binds K fd ps []:=λs us _ hl=>by
 rw[Vp] at hl ⊢;exact .of_eq (h us hl)
def Passes(CX:Hr) X E:= ∀ pins(σ :St) H s e s',Inv X pins σ H s->CX X.stack H s E e s'->X.xe e s'
section
variable{X:Cx}{CX:Hr}{k:Nat}{f C:U0}{fd:XE}{ps:List Str}{sp:Sp}{Eo:List V}{ds:List UH}{E:XK}{x m:Str}{p pos apos:Pos}{e o:Vu}{es:List Vu}{ta:TE}{t:TA}
theorem ML{σ :St}(F:j4 X.prog X.w X.K X.mg X.base CX k f fd ps sp)(hr:cO k X.A)(hb:Binds X.K fd ps ds)(hd:Vals Eo ds)(hx:Passes CX X E)
  (I:Inv X pins σ H s) (r:Vals vs us) (h:sp (vs++Eo) H Q E):U2 (U8 X.prog X.w) X.A (call (.ref f) us) (EP X pins σ Q) X.xe s:=by
 have r2:=r.append hd;have hl:(us++ds).length=ps.length:=by rw[<- r2.length];exact F.len _ _ _ _ h
 refine wpAny_call (aa4 (F.run X.A X.stack s H ⟨us,[]⟩ (us++ds) (vs++Eo) Q E hr I.Rn (hb s us I.ky hl) r2 h) λr s' hq=>?_);cases r with
 | error e=>exact hx pins σ H s e s' I hq
 | ok fl =>
  cases fl with
  | ret u=>exact I.after hq
  | next=>exact Wz hq
  | brk=>exact Wz hq
  | cont=>exact Wz hq
theorem FL(F:j4 X.prog X.w X.K X.mg X.base CX k f fd ps sp)(hr:cO k X.A)(hg:Gl X x)(hm:X.mg x=fv (.ref f))(hk:W7 X.K (.ref f)=true)(hb:Binds X.K fd ps ds)(hd:Vals Eo ds)(hx:Passes CX X E)
  (ha:PA X (e::es) t) (hdb:(x == ("__debug__"))=false:=by decide) (he:Vk (e::es) X.env=(false,Wt e X.env)::Vk es X.env:=by rfl) (hpl:(Yh pos (Vk es X.env)).any (·.1)=false:=by rfl) :
  PE X (.Call (.Name x p) (e::es) [] pos) (ya sp Eo E t):=by
 intro pins s σ H Q I h;refine YS (xY I hg hm ?_ hdb);refine PySem.W.callWith_K (h₀ :=X.base) I.ok.mod.Sk hk (Ad (ha pos pins s σ H _ I h) λus s1 vs H1 I1 r q=>⟨I1.ky,?_⟩) he hpl;exact ML F hr hb hd hx I1 r q
structure Mk(K:UC)(C f:U0):Prop where
 makes:PySem.W.makesIn K C=true
 init:W6 K (.ref C) "__init__" =fv (fv (.ref f))
 fn:ab4 K (.ref f)=true
 kp:W7 K (.ref C)=true
end
section
variable{X:Cx}{CX:Hr}{k:Nat}{f C:U0}{fd:XE}{ps ks:List Str}{sp:Sp}{E:XK}{x m:Str}{p pos apos kpos:Pos}{e o:Vu}{es:List Vu}{kws:List aaB}{te ta:TE}{t tk:TA}{nm:Option Str}
structure Rb(K:UC)(fd:XE)(ps ks:List Str)(g:List UH->List UH->List UH)(gV:List V->List V->List V):Prop where
 to: ∀(s:UM)(us ws:List UH),K.In s.heap->(g us ws).length=ps.length->ZL s fd ⟨us,ks.zip ws⟩ (ps.zip (g us ws))
 rel: ∀{vs:List V}{us:List UH}{zs:List V}{ws:List UH},Vals vs us->Vals zs ws->Vals (gV vs zs) (g us ws)
variable{g:List UH->List UH->List UH}{gV:List V->List V->List V}
end
structure dZ(N P:List Str)(sc:Y7):Prop where
 kind:sc.kind= .function
 co:sc.isCoroutine=false
 gen:sc.isGenerator=false
 nd:N.Nodup
 pre:N.take P.length=P
 par: ∀ x∈P,sc.names.lookup x=fv .local\/sc.names.lookup x=fv .cell
 Kq: ∀ y∈sc.names,y.2≠ .free
theorem pX{kindOf}: ∀{binds m},(∀ v,(x,v) ∉ binds)->bindL kindOf binds m x=m x
 | [],_,_=>rfl
 | (n,v)::r,m,h=>by
  unfold bindL;rw[pX λw hw=>h w (UZ _ hw)];split
  . have:x≠n:=by rintro rfl;exact h v UX
    simp[this]
  . rfl
theorem pZ{kindOf}: ∀{binds m},(∀ v,(x,v) ∉ binds)->bindC kindOf binds m x=m x
 | [],_,_=>rfl
 | (n,v)::r,m,h=>by
  unfold bindC;rw[pZ λw hw=>h w (UZ _ hw)];split
  . rfl
  . have:x≠n:=by rintro rfl;exact h v UX
    simp[this]
theorem qg{kindOf:Str->Option Yn}{x:Str}{v:UH}: ∀{P:List Str}{vs:List UH}{i:Nat}{m:Str->Option UH},P.Nodup->P[i]?=fv x->vs[i]?=fv v->kindOf x=fv .local ->
  bindL kindOf (P.zip vs) m x=fv v
 | [],_,_,_,_,h,_,_=>by simp at h
 | _::_,[],_,_,_,_,h,_=>by simp at h
 | p::P,w::vs,0,m,nd,h1,h2,hk=>by
  simp at h1 h2;subst h1;subst h2;show bindL kindOf ((p,w)::P.zip vs) m p=_;unfold bindL;rw[pX λv hv=>(WN.mp nd).1 (Z2 hv).1,if_pos hk];simp
 | p::P,w::vs,i+1,m,nd,h1,h2,hk=>by
  unfold bindL;exact qg (i:=i) (WN.mp nd).2 (by simpa using h1) (by simpa using h2) hk
theorem p8{kindOf:Str->Option Yn}{x:Str}{v:UH}: ∀{P:List Str}{vs:List UH}{i:Nat}{m:Str->Option UH},P.Nodup->P[i]?=fv x->vs[i]?=fv v->kindOf x≠fv .local ->
  bindC kindOf (P.zip vs) m x=fv v
 | [],_,_,_,_,h,_,_=>by simp at h
 | _::_,[],_,_,_,_,h,_=>by simp at h
 | p::P,w::vs,0,m,nd,h1,h2,hk=>by
  simp at h1 h2;subst h1;subst h2;show bindC kindOf ((p,w)::P.zip vs) m p=_;unfold bindC;rw[pZ λv hv=>(WN.mp nd).1 (Z2 hv).1,if_neg hk];simp
 | p::P,w::vs,i+1,m,nd,h1,h2,hk=>by
  unfold bindC;exact p8 (i:=i) (WN.mp nd).2 (by simpa using h1) (by simpa using h2) hk
noncomputable def start(N:List Str)(vs:List V):St:=vs.map fv++UN (N.length - vs.length) UB
noncomputable def jZ(CX:Hr)(P:Vl)(w:VE)(K:UC)(mg:Str->Option UH)(base:VO)(N:List Str)(qual:Str)(scope:Y7)(f:U0)(cd:UH)(A:Wf)(outer:List Env)(s:UM)(H:Hp)(E:XK):Cx where
 prog:=P
 w:=w
 K:=K
 mg:=mg
 base:=base
 A:=A.deeper (YT qual scope s.heap.objs.size f cd)
 N:=N
 s₀ :=s
 H₀ :=H
 env:=YT qual scope s.heap.objs.size f cd
 outer:=outer
 stack:=YT qual scope s.heap.objs.size f cd::outer
 ex:=[]
 calm:=true
 fn:=λ_=>true
 pn:=[]
 xe:=λe s'=>U2 (U8 P w) (A.deeper (YT qual scope s.heap.objs.size f cd)) (leaving (YT qual scope s.heap.objs.size f cd) e) (λ_ s''=>CX outer H s E e s'') (λe' s''=>CX outer H s E e' s'') s'
theorem um{sc:Y7}(h:sc.names.lookup x=fv .cell): ∃ c,(Xi n sc.names []).lookup x=fv c:=by
 have q:=X6 sc.names n [] (.inl h);exact XG.mp q
theorem yk{K} 
  (S:dZ N ps scope) (hd:A.handled=UB) (e0:wj P w K mg base A outer s H) (hl:vs.length=ps.length) (r:Vals vs us)
  (x:InCallC s s.heap.objs.size (bindL (YT qual scope s.heap.objs.size f cd).kindOf (ps.zip us) λ_=>UB) (Xi (s.heap.objs.size+1) scope.names []) (bindC (YT qual scope s.heap.objs.size f cd).kindOf (ps.zip us) λ_=>UB) s1) :
  Inv (jZ CX P w K mg base N qual scope f cd A outer s H E) [] (start N vs) H s1:=by
 have hpl:ps.length<=N.length:=by have:=congrArg Yo S.pre;rw[VT] at this;omega
 obtain⟨h1,tk,rfl,hk⟩:=x.done;have noA: ∀ b:U0,b ∉ (jZ CX P w K mg base N qual scope f cd A outer s H E).ex:=λb z=>absurd (show b∈([]) from z) (by simp);refine⟨⟨e0.mod,S.kind,rfl,rfl,UL _,λy z c h1 h2=>?_,λy hy=>?_,λy c _ h=>?_,λ_=>hd,Around.frames_deeper e0.frames,.inr ⟨rfl,rfl⟩,λb z=>absurd z (noA b),e0.bs,e0.Dk,λb _ _=>noA b,λb z=>absurd z (noA b),e0.kA,e0.Hi⟩,
  rfl,e0.bare,Un.kept hk,⟨_,x.toInCall.ns,λi y v h1 h2 h3=>?_⟩,λy c h=>⟨_,x.cell y c h⟩,e0.bb.fresh (UL _),λy c h=>?_,λp hp=>absurd (show p∈([]) from hp) (by simp),e0.bb.kept hk,?_⟩
 . exact name_of_addr x.apart (W3 h1) (W3 h2)
 . rcases hy with hy | hy
   . exact um hy
   . exact absurd rfl (S.Kq _ (W3 hy))
 . exact WO (x.above y c (W3 h))
 . have hi:i < vs.length:=by
    unfold start at h2;by_cases hi:i < vs.length
    . exact hi
    . rw[Vd (by simpa using hi)] at h2;rw[W8] at h2;split at h2<;>cases h2
   have ha:vs[i]?=fv v:=by
    unfold start at h2;rw[Vj (by simpa using hi),U1] at h2;cases e:vs[i]? with
    | none=>simp_all
    | some a=>simp_all
   obtain⟨u,hu,rv⟩:=r.get ha;have hp:ps[i]?=fv y:=by
    rw[<- S.pre,List.getElem?_take_of_lt (by omega)];exact h1
   have ndP:ps.Nodup:=by rw[<- S.pre];exact S.nd.sublist (List.take_sublist _ _)
   refine⟨u,rv,?_⟩;rcases S.par y (UR hp) with k | k
   . exact .inl ⟨k,qg ndP hp hu k⟩
   . obtain⟨c,e⟩:=um (n:=s.heap.objs.size+1) k;refine .inr ⟨.inl k,c,e,?_⟩;have q:=x.cell y c e;rw[p8 ndP hp hu (by show scope.names.lookup y≠_;rw[k];decide)] at q;exact q
 . exact e0.bb.fresh (WO (x.above y c (W3 h)))
 . unfold start;show _=N.length;rw [U5,UE,aaa];omega
theorem N4{K kV} 
       (lk : K.lookup f = some ⟨oc, od, .func (PySem.W.fnOf name qual params body scope dV kV doc pm an cdv ct), osl⟩) (hcd : PySem.W.codeIn K cdv qual = true) (S : dZ N ps scope)
    (len : ∀ vs H Q E, sp vs H Q E -> vs.length = ps.length)
    (hbody : ∀ A outer s H vs Q E, cO k (A.deeper (YT qual scope s.heap.objs.size f cdv)) -> sp vs H Q E ->
      ∃ t, vU (jZ CX P w K mg base N qual scope f cdv A outer s H E) body t /\ t { nx := λ_ H' => Q .non H', rt := Q} (start N vs) H) :
    j4 P w K mg base CX (k + 1) f (V2 name qual params body scope dV kV doc pm an cdv ct) ps sp := by
  refine ⟨len, λA outer s H args us vs Q E hr e0 hb r hsp => ?_⟩;have hl := len _ _ _ _ hsp;have KX := e0.mod.Sk.keeps λb o e => (e0.bs b o e).1;have lim := e0.mod.nolimit.keeps λb o e => (e0.bs b o e).1;have hkind : ∀ y ∈ ps.zip us, scope.names.lookup y.1 = fv .local ∨ (scope.names.lookup y.1 = fv .cell /\ ((Xi (s.heap.objs.size + 1) scope.names []).lookup y.1).isSome = true) := λ⟨n, v⟩ hy => by
    rcases S.par n (Z2 hy).1 with q | q
    . exact .inl q
    . exact .inr ⟨q, X6 _ _ _ (.inl q)⟩
  refine codeAny_call_function hr.depth (KX _ _ lk) rfl S.co S.gen rfl (PySem.W.codeRec_of KX hcd) (hb _ _ _ _ ?_);refine wpAny_newFunctionEnv_cells S.kind hkind λenv he s1 x => ?_;subst he;refine ⟨lim.keeps x.toInCall.keep, codeAny_func ?_⟩;obtain ⟨t, ht, hq⟩ := hbody A outer s H vs Q E (hr.deeper _) hsp;have I : Inv (jZ CX P w K mg base N qual scope f cdv A outer s H E) [] (start N vs) H s1 := yk S hr.hd e0 hl r x;refine Vo (ht [] s1 (start N vs) H _ I hq) (λfl s' hs => ?_) λe s' hs => hs;have fin : ∀{σ' : St}{H' : Hp}{v : V}{u : UH}, Inv (jZ CX P w K mg base N qual scope f cdv A outer s H E) [] σ' H' s' -> RelV v u -> Q v H' -> CE outer P w H s Q u s' :=
    λ{σ' H' v u} J rv q => ⟨v, H', J.os, J.bare, J.base, J.bb, rv, q⟩
  cases fl with
  | ret u =>
    obtain ⟨v, σ', H', J, rv, q⟩ := hs
    exact fin J rv q
  | next =>
    obtain ⟨σ', H', J, q⟩ := hs
    exact fin (v := V.non) (u := WU) J rfl q
  | brk =>
    obtain ⟨_, _, _, q⟩ := hs
    exact Wz q
  | cont =>
    obtain ⟨_, _, _, q⟩ := hs
    exact Wz q
section
variable{X:Cx}{x:Str}{p pos:Pos}{e:Vu}{es:List Vu}{t:TA}{id T:String}{r:List V->Hp->VK->Prop}
noncomputable def HN(r:List V->Hp->VK->Prop)(t:TA):TE:=fun σ H Q=>t σ H λvs H1=>r vs H1 Q
theorem Al(hc:aM X (.builtin id) r)(hg:Gl X x)(hm:X.mg x=UB)(hv:VR x=fv (.builtin id))(ha:PA X (e::es) t)(hn:x≠ "__name__" :=by decide)(hdb:(x == ("__debug__"))=false:=by decide)
  (he:Vk (e::es) X.env=(false,Wt e X.env)::Vk es X.env:=by rfl) (hpl:(Yh pos (Vk es X.env)).any (·.1)=false:=by rfl):PE X (.Call (.Name x p) (e::es) [] pos) (HN r t):=by
 intro pins s σ H Q I h;refine YS (g8 I hg hm hv ?_ hn hdb);exact PyProof.Rows.callWith_builtin1 (Ad (ha pos pins s σ H _ I h) λus s1 vs H1 I1 r1 q1=>hc pins s1 σ H1 vs us Q I1 r1 q1) he hpl
theorem yZ(hc:aM X (.type T) r)(hg:Gl X x)(hm:X.mg x=UB)(hv:VR x=fv (.type T))(ha:PA X (e::es) t)(hn:x≠ "__name__" :=by decide)(hdb:(x == ("__debug__"))=false:=by decide)
  (he:Vk (e::es) X.env=(false,Wt e X.env)::Vk es X.env:=by rfl) (hpl:(Yh pos (Vk es X.env)).any (·.1)=false:=by rfl):PE X (.Call (.Name x p) (e::es) [] pos) (HN r t):=by
 intro pins s σ H Q I h;refine YS (g8 I hg hm hv ?_ hn hdb);exact VN (Ad (ha pos pins s σ H _ I h) λus s1 vs H1 I1 r1 q1=>hc pins s1 σ H1 vs us Q I1 r1 q1) he hpl
end
end L2
namespace HT
open PySem PyProof.Rows
section
variable{prog:Vl}{w:VE}{A:Wf}{E:UH->UM->Prop}{s:UM}
theorem Gp{t b:U0}{vs ws:List UH}{Q:UH->UM->Prop}(ht:IsTup s.heap t vs.toArray)(hb:IsTup s.heap b ws.toArray)(hv:vs≠[])
  (h1:ws=[]->Q (.ref t) s) (h2:ws≠[]->Q (.ref s.heap.objs.size) { s with heap:=s.heap.push { cls:= .type "tuple",data:= .seq (vs++ws).toArray}})
  (hsz:vs.length+ws.length<=UK):U2 (U8 prog w) A (VX .Add (.ref t) (.ref b)) Q E s:=by
 obtain⟨⟨cls,dd,data,sl⟩,ho,hc,n,hd⟩:=id ht;obtain⟨⟨cls2,dd2,data2,sl2⟩,ho2,hc2,n2,hd2⟩:=id hb;simp only at hc hd hc2 hd2;subst hc hd hc2 hd2;have e:vs.toArray++ws.toArray=(vs++ws).toArray:=by simp
 by_cases hw:ws=[]
 . exact aa5 ⟨_,ho,rfl⟩ ⟨_,ho2,rfl⟩ Zx aaO X7 X0 (XH _ _)
    (tuple_addW1 t b vs.toArray ws.toArray n n2 dd dd2 sl sl2 (by simpa using hv) (by simp[hw])) ⟨ho,ho2,h1 hw⟩
 . refine aa5 ⟨_,ho,rfl⟩ ⟨_,ho2,rfl⟩ Zx aaO X7 X0 (XH _ _)
    (tuple_addW2 t b vs.toArray ws.toArray n n2 dd dd2 sl sl2 (by simpa using hv) (by simpa using hw) (by exact hsz)) ⟨ho,ho2,?_⟩
   rw[e];exact h2 hw
noncomputable def c8(n d:Nat):Option Int->Nat
 | none=>d
 | some v=>if v < 0 then(v+(n)).toNat else min v.toNat n
theorem kl n d:c8 n d UB=d:=rfl
theorem iP(n d k:Nat):c8 n d (fv (k))=min k n:=by
 rfl
theorem RT n d (hd:d<=n) o:c8 n d o<=n:=by
 cases o with
 | none=>exact hd
 | some v =>
  show(if v < 0 then(v+(n)).toNat else min v.toNat n)<=n
  by_cases hv:v < 0
  . grind
  . rw[if_neg hv];exact Yi _ _
theorem xW v (n d:Nat):(if v < 0 then max (v+(n:Int)) 0 else min v (n))=((c8 n d (fv v))):=by
 show(if v < 0 then max (v+(n)) 0 else min v (n))=(((if v < 0 then(v+(n)).toNat else min v.toNat n)))
 by_cases hv:v < 0
 . simp_all
 . grind
theorem vG lo hi (n:Nat):Xu lo hi 1 (n)=(((c8 n 0 lo):Int),((c8 n n hi):Int)):=by
 have h1: ¬ ((1) < 0):=by omega
 unfold Xu;refine Prod.ext ?_ ?_
 . cases lo with
   | none=>rfl
   | some v=>exact xW v n 0
 . cases hi with
   | none=>rfl
   | some v=>exact xW v n n
theorem vM(i j:Nat):WL (i) (j) 1=j - i:=by
 unfold WL;have h1:(1:Int) > 0:=by omega
 simp only[h1,if_true,Int.ediv_one];split<;>omega
theorem nz{v:UH}{o:Option Int}{Q:Option Int->UM->Prop}(p:ZN v o)(h:Q o s):U2 (U8 prog w) A (Builtin.Slice.slicePartIndex v) Q E s:=by
 cases p with
 | none=>exact slicePart_none h
 | int i t=>exact slicePart_int h
theorem gp{sl:U0}{vl vu:UH}{lo hi:Option Int}{n:Nat}{Q:Int × Int × Nat->UM->Prop}(hs:s.heap.IsSliceOf sl vl vu .none)(pl:ZN vl lo)(pu:ZN vu hi)
  (h:Q (((c8 n 0 lo:Nat):Int),1,c8 n n hi - c8 n 0 lo) s):U2 (U8 prog w) A (Builtin.Slice.sliceApplied (.ref sl) (pure (n:Int))) Q E s:=by
 obtain⟨os,hos,hcs,hds⟩:=id hs;refine UA (UA (VZ hos hds (x:=vl) rfl (UA (VZ hos hds (x:=vu) rfl (UA (VZ hos hds (x:= .none) rfl (UO ?_)))))));refine UA (slicePart_none ?_);refine UA (nz pl (UA (nz pu (UA (UO ?_)))));show U2 _ _ (match Xu lo hi 1 (n) with | (lo,hi)=>pure (lo,(1:Int),WL lo hi 1)) _ _ s;rw[vG lo hi n];show U2 _ _ (pure (((c8 n 0 lo):Int),(1),WL ((c8 n 0 lo)) ((c8 n n hi)) 1)) _ _ s;rw[vM];exact UO h
theorem AD(xs:Array UH)(i k:Nat):((Vq k).filterMap λ(m:Nat)=>xs[((i:Int)+(m)*1).toNat]?).toArray=((xs.toList.drop i).take k).toArray:=by
 have e:(λ(m:Nat)=>xs[((i)+(m:Int)*1).toNat]?)=λm=>xs[i+m]?:=by
  funext m
  have:((i)+(m:Int)*1).toNat=i+m:=by omega
  rw[this]
 rw[e];have:=pick_run xs i k;rw[List.filterMap_map] at this;have e2:((λx=>xs[x]?) ∘ λx=>i+x)=λm=>xs[i+m]?:=rfl;rw[e2] at this;rw [this]
theorem j9{t sl : U0}{items : Array UH}{vl vu : UH}{lo hi : Option Int}{Q : UH -> UM -> Prop}(ht : IsTup s.heap t items)(hs : s.heap.IsSliceOf sl vl vu .none)(pl : ZN vl lo)(pu : ZN vu hi)
    (hw : ¬ (c8 items.size 0 lo = 0 /\ c8 items.size items.size hi = items.size))
    (h : Q (.ref s.heap.objs.size) { s with heap := s.heap.push { cls := .type "tuple", data := .seq ((items.toList.drop (c8 items.size 0 lo)).take (c8 items.size items.size hi - c8 items.size 0 lo)).toArray}})
    (hsz : items.size <= UK) : U2 (U8 prog w) A (YE (.ref t) (.ref sl)) Q E s := by
  have htake : sizeOk (.seq ((items.toList.drop (c8 items.size 0 lo)).take (c8 items.size items.size hi - c8 items.size 0 lo)).toArray) := by
    show ((items.toList.drop (c8 items.size 0 lo)).take (c8 items.size items.size hi - c8 items.size 0 lo)).toArray.size <= UK;rw [Vb, VT, W9, WB];omega
  obtain ⟨os, hos, hcs, hds⟩ := id hs;have hTs : s.TypeIs (.ref sl) "slice" := ⟨os, hos, hcs⟩
  unfold YE
  try with_reducible refine Wg ?_
  refine UA (wpAny_sequenceKey ht.typeIs (by decide) ?_);refine UA (Wb (name := UI "__getitem__") ht.typeIs Vv
    (Wq Vv ht.typeIs aaF ?_ (aaU _ _)))
  show U2 _ _ (YU (.ref t) >>= _) _ _ s;refine UA (tupleItemsOf_ ht ?_);refine UA (Xr hTs ?_);refine UA (gp hs pl pu ?_);have hno : ¬ ((((c8 items.size 0 lo) : Int) == 0 && (1 : Int) == 1 && (c8 items.size items.size hi - c8 items.size 0 lo) == items.size) = true) := by
    simp_all
  show U2 _ _ (if (((c8 items.size 0 lo) : Int) == 0 && (1) == 1 && (c8 items.size items.size hi - c8 items.size 0 lo) == items.size) = true then _ else _) _ _ s;rw [if_neg hno, AD]
  first
    | exact UA (m := V3 _) (V0 (UO ⟨_, rfl, UO h⟩) htake)
    | exact UA (m := V3 _) (V0 (UA (UO (UO ⟨_, rfl, UO h⟩))) htake)
    | exact UA (UA (m := V3 _) (V0 (UO (UO ⟨_, rfl, UO h⟩)) htake))
    | exact UA (UA (m := V3 _) (V0 (UO ⟨_, rfl, UO h⟩) htake))
end
end HT
namespace L2
open PySem PySem.Spec PyProof.Rows
abbrev TO:=St->Hp->(Option Int->Hp->Prop)->Prop
def PO X (e:Option Vu) (t:TO) :=
 ∀ pins s(σ :St) H Q,Inv X pins σ H s->t σ H Q ->
  U2 (U8 X.prog X.w) X.A (evalPart e X.env) (λu s'=> ∃ o H',Inv X pins σ H' s'/\ZN u o/\Q o H') X.xe s
noncomputable def xN:TO:=λ_ H Q=>Q UB H
noncomputable def Hd(t:TE):TO:=fun σ H Q=>t σ H λx H1=> ∃ i,x= .int i/\Q (fv i) H1
theorem intsAre_of{ns:List Int}: ∀{us:List UH},Vals (ns.map V.int) us->aa6 us ns:=by
 induction ns with
 | nil=>intro us r;rw[VU] at r;cases r;exact .nil
 | cons n ns ih =>
  intro us r
  rw[UP] at r
  cases r with
  | cons r1 r2 =>
   obtain⟨t,e⟩:=r1
   subst e
   exact .cons n t (ih r2)
section
variable{X:Cx}{e:Vu}{te:TE}{lo hi:Option Vu}{tl th:TO}{pos p2:Pos}
theorem F9:PO X UB xN:=by
 intro pins s σ H Q I h;exact UO ⟨UB,H,I,.none,h⟩
theorem Dr(h:PE X e te):PO X (fv e) (Hd te):=by
 intro pins s σ H Q I hw;refine gZ (h pins s σ H _ I hw) λu s1 x H1 I1 r1 q1=>?_;obtain⟨i,rfl,q⟩:=q1;obtain⟨t,rfl⟩:=r1;exact⟨fv i,H1,I1,.int i t,q⟩
def Dj X (r:V->Option Int->Option Int->Hp->VK->Prop) :=
 ∀ pins s(σ :St) H x v vl vu lo hi sl Q,Inv X pins σ H s->RelV x v->s.heap.IsSliceOf sl vl vu .none->ZN vl lo->ZN vu hi->r x lo hi H Q ->
  ∃ T id,typeLookup (.type T) "__getitem__" =pure (fv (.builtin id))/\s.TypeIs v T/\U2 (U8 X.prog X.w) X.A (YE v (.ref sl)) (EP X pins σ Q) X.xe s
theorem Dj.or(h:Dj X r)(h':Dj X r'):Dj X (λx lo hi H Q=>r x lo hi H Q\/r' x lo hi H Q):=by
 intro pins s σ H x v vl vu lo hi sl Q I rx hs pl pu q;rcases q with q | q
 . exact h pins s σ H x v vl vu lo hi sl Q I rx hs pl pu q
 . exact h' pins s σ H x v vl vu lo hi sl Q I rx hs pl pu q
noncomputable def Tx(r:V->Option Int->Option Int->Hp->VK->Prop)(te:TE)(tl th:TO):TE:=fun σ H Q=>te σ H λx H1=>tl σ H1 λl H2=>th σ H2 λu H3=>r x l u H3 Q
theorem Bm(hr:Dj X r)(he:PE X e te)(hl:PO X lo tl)(hu:PO X hi th):PE X (.Subscript e (.Slice lo hi UB p2) pos) (Tx r te tl th):=by
 intro pins s σ H Q I h;refine Subscript_ (gZ (he pins s σ H _ I h) λv s1 x H1 I1 r1 q1=>?_);refine wpAny_Slice (oF (hl pins s1 σ H1 _ I1 q1) λvl s2 ⟨l,H2,I2,pl,q2⟩=>oF (hu pins s2 σ H2 _ I2 q2) λvu s3 z9=>?_);obtain⟨u,H3,I3,pu,q3⟩:=z9;refine UO ?_;have I4:Inv X pins σ H3 { s3 with heap:=s3.heap.push { cls:= .type "slice",data:= .fields #[vl,vu,.none]}}:=I3.kept (t':=s3.toks) λb ob q=>UD _ q;obtain⟨T,id,hT,ht,hg⟩:=hr pins { s3 with heap:=s3.heap.push { cls:= .type "slice",data:= .fields #[vl,vu,.none]}} σ H3 x v vl vu l u s3.heap.objs.size Q I4 r1 (ab9 ..) pl pu q3;exact tail_any (ops:=[.ref s3.heap.objs.size,v]) ht hT hg (by rfl)
def lS(xs:List V)(lo hi:Option Int):=(xs.drop (HT.c8 xs.length 0 lo)).take (HT.c8 xs.length xs.length hi - HT.c8 xs.length 0 lo)
theorem lq xs lo hi:(lS xs lo hi).length<=xs.length:=by
 unfold lS;rw[VT,W9];omega
def NI(K:UC):V->Option Int->Option Int->Hp->VK->Prop:=λx lo hi H Q=> ∃ a xs,x= .ref a/\dQ K H a xs /\
 ¬ (HT.c8 xs.length 0 lo=0/\HT.c8 xs.length xs.length hi=xs.length)/\ ∀ p,H p=UB->Q (.ref p) (upd H p (.tup (lS xs lo hi)))
theorem MJ:Dj X (NI X.K):=by
 intro pins s σ H x v vl vu lo hi sl Q I rx hs pl pu h;obtain⟨a,xs,rfl,hx,hw,q⟩:=h;cases rx;obtain⟨aj,r,ht,hz⟩:=I.tuple hx;have hlen:aj.toArray.size=xs.length:=by exact r.length.symm
 refine⟨"tuple",_,Vv.lookup,ht.typeIs,?_⟩;refine HT.j9 ht hs pl pu (by rw[hlen];exact hw) ?_ (by rw[hlen];exact hz);rw[hlen];refine⟨.ref s.heap.objs.size,_,I.laid (t':=s.toks) (o:= .tup (lS xs lo hi)) (λb ob q=>UD _ q) (UL _) ?_,rfl,q _ (I.bb.fresh (UL _))⟩;exact⟨Va (lq xs lo hi) hz,_,(r.drop (HT.c8 xs.length 0 lo)).take (HT.c8 xs.length xs.length hi - HT.c8 xs.length 0 lo),oQ.new _ _⟩
def Hc(K:UC):R2:=λx y H Q=> ∃ a b xs ys,x= .ref a/\y= .ref b/\dQ K H a xs/\dQ K H b ys/\xs≠[]/\xs.length+ys.length<=UK /\
 (ys=[]->Q (.ref a) H)/\(ys≠[]-> ∀ p,H p=UB->Q (.ref p) (upd H p (.tup (xs++ys))))
theorem Vals.mB(r:Vals xs us):us=[]↔xs=[]:=by
 cases r with
 | nil=>simp
 | cons _ _=>simp
theorem Fs:cC X (VX .Add) (Hc X.K):=by
 intro pins s σ H x y v u Q I rx ry h;obtain⟨a,b,xs,ys,rfl,rfl,ha,hb,hx,hz,q1,q2⟩:=h;cases rx;cases ry;obtain⟨aj,r1,p1,_⟩:=I.tuple ha;obtain⟨its2,r2,p2,_⟩:=I.tuple hb;refine HT.Gp p1 p2 (λz=>hx (r1.mB.mp z)) (λz=>⟨.ref a,H,I,rfl,q1 (r2.mB.mp z)⟩) (λz=>?_) (by rw[<- r1.length,<- r2.length];exact hz);refine⟨.ref s.heap.objs.size,_,I.laid (t':=s.toks) (o:= .tup (xs++ys)) (λb ob q=>UD _ q) (UL _) ?_,rfl,q2 (λw=>z (r2.mB.mpr w)) _ (I.bb.fresh (UL _))⟩;exact⟨by rw[U5];exact hz,_,r1.append r2,oQ.new _ _⟩
end
noncomputable def o7(n:Nat)(i:Int):=if 0<=i then(if i < n then fv i.toNat else UB) else if -(n)<=i then fv (i+n).toNat else UB
def cR{α :Type}(xs:List α) i:=(o7 xs.length i).bind λj=>xs[j]?
theorem xZ(h:o7 n i=fv j):seqIndex? i n=fv j/\j < n/\ -(n)<=i/\i < n:=by
 unfold o7 at h;by_cases h0:0<=i
 . rw[if_pos h0] at h;by_cases h1:i < n
   . rw[if_pos h1] at h;have e:=Vx h;exact⟨by rw[abC h0 h1,e],by omega,by omega,h1⟩
   . simp_all
 . rw[if_neg h0] at h;by_cases h1: -(n)<=i
   . rw[if_pos h1] at h;have e:=Vx h;exact⟨by rw[aa7 (by omega) h1,e],by omega,h1,by omega⟩
   . simp_all
theorem qO(h:cR xs i=fv v): ∃ j,seqIndex? i xs.length=fv j/\xs[j]?=fv v/\j < xs.length/\ -(xs.length)<=i/\i < xs.length:=by
 unfold cR at h;cases e:o7 xs.length i with
 | none=>simp_all
 | some j =>
  rw[e] at h
  obtain⟨h1,h2,h3,h4⟩:=xZ e
  exact⟨j,h1,h,h2,h3,h4⟩
theorem c9{j:Nat}(h:xs[j]?=fv v):cR xs (j)=fv v:=by
 have hj:=(UJ.mp h).1;have e:o7 xs.length (j)=fv j:=by
  unfold o7;rw[if_pos (by omega),if_pos (by omega)];simp
 unfold cR;rw[e];exact h
def q9 b:= ∀ o i,Zb b false o i=operate [o,i] (YE o i)
def yq X (r:R2) :=
 ∀ value slice pins s(σ :St) H x y v u Q,Inv X pins σ H s->RelV x v->RelV y u->r x y H Q ->
  Zb slice false v u=operate [v,u] (YE v u)->U2 (U8 X.prog X.w) X.A (subscriptTail value slice v u) (EP X pins σ Q) X.xe s
def Di X (id:String) (r:V->List V->Hp->VK->Prop) :=
 ∀ pins s(σ :St) H x xs v us Q,Inv X pins σ H s->RelV x v->Vals xs us->r x xs H Q ->
  U2 (U8 X.prog X.w) X.A (call (.builtin id) (v::us)) (EP X pins σ Q) X.xe s
section
variable{X:Cx}{a b:Vu}{ta tb:TE}{pos:Pos}
theorem yq.or(h:yq X r)(h':yq X r'):yq X (λx y H Q=>r x y H Q\/r' x y H Q):=by
 intro value slice pins s σ H x y v u Q I rx ry q hs;rcases q with q | q
 . exact h value slice pins s σ H x y v u Q I rx ry q hs
 . exact h' value slice pins s σ H x y v u Q I rx ry q hs
theorem N2(hr:yq X r)(ha:PE X a ta)(hb:PE X b tb)(hs:q9 b):PE X (.Subscript a b pos) (FZ r ta tb):=by
 intro pins s σ H Q I h;exact Subscript_ (IV ha hb I h λv u s2 x y H2 I2 rx ry q=>hr a b pins s2 σ H2 x y v u Q I2 rx ry q (hs _ _))
def OQ(K:UC):R2:=λx y H Q=> ∃ p xs i v,x= .ref p/\y= .int i/\gB K H p xs/\cR xs i=fv v/\Q v H
def Ny(K:UC):R2:=λx y H Q=> ∃ p xs i v,x= .ref p/\y= .int i/\dQ K H p xs/\cR xs i=fv v/\Q v H
def PU:R2:=λx y H Q=> ∃ z i c,x= .str z/\y= .int i/\z.length<=UK/\cR z.cps.toList i=fv c/\Q (.str ⟨#[c]⟩) H
theorem Dt:yq X (OQ X.K):=by
 intro value slice pins s σ H x y v u Q I rx ry h hs;obtain⟨p,xs,i,z,rfl,rfl,hq,he,q⟩:=h;cases rx;obtain⟨t,rfl⟩:=ry;obtain⟨aj,r,pl,hz⟩:=I.list hq;obtain⟨j,h1,h2,h3,h4,h5⟩:=qO he;obtain⟨w,ew,rw'⟩:=r.get h2;have hl:=r.length;have hn:=kP;have fin:EP X pins σ Q w s:=⟨z,H,I,rw',q⟩
 by_cases h0:0<=i
 . have hj:i.toNat=j:=by
    rw[abC h0 h5] at h1;exact Vx h1
   exact item_listR pl.isList h0 (by omega) (by rw[hj];simpa using ew) fin hs
 . have hj:(i+(aj.toArray.size)).toNat=j:=by
    rw[aa7 (by omega) h4] at h1;rw[Vb,<- hl];exact Vx h1
   exact ZO (x:=w) pl.isList.typeIs slot_list_getitem.lookup
    (wpAny_getItem_list_neg (Q:=λr s'=>r=w/\EP X pins σ Q r s') pl.isList (by omega) (by simp_all) (by omega) (by rw[hj];simpa using ew) ⟨rfl,fin⟩) hs
theorem Ij:yq X (Ny X.K):=by
 intro value slice pins s σ H x y v u Q I rx ry h hs;obtain⟨p,xs,i,z,rfl,rfl,hq,he,q⟩:=h;cases rx;obtain⟨t,rfl⟩:=ry;obtain⟨aj,r,pl,hz⟩:=I.tuple hq;obtain⟨j,h1,h2,h3,h4,h5⟩:=qO he;obtain⟨w,ew,rw'⟩:=r.get h2;have hl:=r.length;have hn:=kP;have fin:EP X pins σ Q w s:=⟨z,H,I,rw',q⟩
 exact ZO (x:=w) pl.typeIs Vv.lookup
  (getItem_tuple (j:=j) (Q:=λr s'=>r=w/\EP X pins σ Q r s') pl (by omega) (by omega) (by rw[Vb,<- hl];exact h1) (by simpa using ew) ⟨rfl,fin⟩) hs
theorem Jd:yq X PU:=by
 intro value slice pins s σ H x y v u Q I rx ry h hs;obtain⟨z,i,c,rfl,rfl,hz,he,q⟩:=h;obtain⟨t,rfl⟩:=rx;obtain⟨t',rfl⟩:=ry;obtain⟨j,h1,h2,h3,h4,h5⟩:=qO he;have hl:z.cps.toList.length=z.length:=by rfl
 rw[hl] at h1 h4 h5;have hn:=kP;exact tail_any (aaV s z t) slot_str_getitem.lookup (getItem_str (c:=c) (by
  grind) (by rw[h1];simpa using h2) ⟨.str ⟨#[c]⟩,H,I.tok _,⟨_,rfl⟩,q⟩) hs
def Ui(K:UC):R2:=λx y H Q=>OQ K x y H Q\/Ny K x y H Q\/PU x y H Q
theorem LK:yq X (Ui X.K):=Dt.or (Ij.or Jd)
theorem wW(aj:List UH) n j u:WV (·.setIfInBounds j u) { cls:= .type "list",data:= .seq aj.toArray n}={ cls:= .type "list",data:= .seq (aj.set j u).toArray n}:=by
 simp[WV]
theorem Inv.lst{pins}{σ :St}{H s p xs}(I:Inv X pins σ H s)(h:H p=fv (.lst xs)) :
  ∃(aj:List UH)(n:Nat),Vals xs aj/\s.heap.get? p=fv { cls:= .type "list",data:= .seq aj.toArray n}/\xs.length<=UK:=by
 obtain⟨z,aj,n,r,e⟩:=I.bb p _ h;exact⟨aj,n,r,e,z⟩
theorem Inv.MU{pins:List (U0 × Obj)}{σ :St}{H:Hp}{s:UM}{p:U0}{xs ys:List V}{aj its':List UH}{n n':Nat}{f:Obj->Obj}(I:Inv X pins σ H s)(h:H p=fv (.lst xs))
  (ho:s.heap.get? p=fv { cls:= .type "list",data:= .seq aj.toArray n}) (hf:f { cls:= .type "list",data:= .seq aj.toArray n}={ cls:= .type "list",data:= .seq its'.toArray n'}) (r:Vals ys its') (hz:ys.length<=UK) (t:Nat) :
  Inv X pins σ (upd H p (.lst ys)) { s with heap:=s.heap.update p f,toks:=t}:=by
 have e:(s.heap.update p f).get? p=fv { cls:= .type "list",data:= .seq its'.toArray n'}:=by
  rw[aab f ho (by rw[hf]<;>rfl),hf]
 refine I.write (x:=p) (e:=p) (by rw[h];trivial) (.inl rfl) (λb u hb q=>(ZP _ _ (W2 hb)).trans q) ⟨_,e⟩ ?_;exact⟨hz,its',n',r,e⟩
def Oz:V->V->V->Hp->(Hp->Prop)->Prop:=λo i v H Q=> ∃ p xs k j,o= .ref p/\i= .int k/\H p=fv (.lst xs)/\o7 xs.length k=fv j/\Q (upd H p (.lst (xs.set j v)))
theorem set_list:pB X Oz:=by
 intro pins s σ H o i v ov iv u Q I ro ri rv h;obtain⟨p,xs,k,j,rfl,rfl,hp,hj,q⟩:=h;cases ro;obtain⟨t,rfl⟩:=ri;obtain⟨aj,n,r,ho,hz⟩:=I.lst hp;obtain⟨h1,h2,h3,h4⟩:=xZ hj;have hl:=r.length;have hn:=kP;have I' :=
  I.MU hp ho (wW aj n j u) (r.set rv j) (by rw[V7];exact hz) s.toks
 by_cases h0:0<=k
 . have hk:k.toNat=j:=by
    rw[abC h0 h4] at h1;exact Vx h1
   exact PySem.W.ki_setAt ho h0 (by omega) (by rw[Vb,<- hl];exact h4) (by rw[hk];exact⟨_,I',q⟩)
 . have hk:(k+(aj.toArray.size)).toNat=j:=by
    rw[aa7 (by omega) h3] at h1;rw[Vb,<- hl];exact Vx h1
   exact PySem.W.ki_setBack ho (by omega) (by simp_all) (by omega) (by rw[hk];exact⟨_,I',q⟩)
theorem sk lo hi n:(Zc lo hi UB n).1=((HT.c8 n 0 lo))/\(Zc lo hi UB n).2.1=((HT.c8 n n hi))/\(Zc lo hi UB n).2.2=1:=by
 refine⟨?_,?_,rfl⟩
 . cases lo with
   | none=>rfl
   | some i =>
    simp only[Zc,HT.c8,abp,show(1:Int) > 0 by decide,if_true]
    by_cases h:i < 0
    . simp only[h,if_true]<;>omega
    . simp only[h,if_false]<;>omega
 . cases hi with
   | none=>rfl
   | some i =>
    simp only[Zc,HT.c8,abp,show(1:Int) > 0 by decide,if_true]
    by_cases h:i < 0
    . simp only[h,if_true]<;>omega
    . simp only[h,if_false]<;>omega
theorem pq(aj:List UH) lo hi:slicePick aj.toArray lo hi UB=((aj.drop (HT.c8 aj.length 0 lo)).take (HT.c8 aj.length aj.length hi - HT.c8 aj.length 0 lo)).toArray:=by
 obtain⟨h1,h2,h3⟩:=sk lo hi aj.toArray.size;unfold slicePick;rw[h1,h2,h3];simp only[sliceRange_one,pick_run]<;>rfl
def Pc(K:UC):V->Option Int->Option Int->Hp->VK->Prop:=λx lo hi H Q=> ∃ a xs,x= .ref a/\gB K H a xs/\ ∀ p,H p=UB->Q (.ref p) (upd H p (.lst (lS xs lo hi)))
theorem DR:Dj X (Pc X.K):=by
 intro pins s σ H x v vl vu lo hi sl Q I rx hs pl pu h;obtain⟨a,xs,rfl,hx,q⟩:=h;cases rx;obtain⟨aj,r,ht,hz⟩:=I.list hx;have hlen:=r.length;refine⟨"list",_,slot_list_getitem.lookup,ht.isList.typeIs,?_⟩;refine wpAny_getItem_list_slice ht.isList hs pl pu .none (by simp) ?_ (by simp_all);rw[pq,<- hlen];refine⟨.ref s.heap.objs.size,_,I.laid (t':=s.toks) (o:= .lst (lS xs lo hi)) (λb ob q=>UD _ q) (UL _) ?_,rfl,q _ (I.bb.fresh (UL _))⟩;exact⟨Va (lq xs lo hi) hz,_,0,(r.drop (HT.c8 xs.length 0 lo)).take (HT.c8 xs.length xs.length hi - HT.c8 xs.length 0 lo),UY _ rfl⟩
noncomputable def gU:V->Bool
 | .non=>true
 | .bl _=>true
 | .int _=>true
 | .str _=>true
 | _=>false
noncomputable def DO:V->V->Bool
 | .non,.non=>true
 | .bl a,.bl b=>a == b
 | .bl a,.int b=>(if a then 1 else 0) == b
 | .int a,.bl b=>a == (if b then 1 else 0)
 | .int a,.int b=>a == b
 | .str a,.str b=>a == b
 | _,_=>false
theorem LD(ry:RelV y u)(rx:RelV x v)(fy:gU y=true)(fx:gU x=true):SeqAt.EqAt A s u v (DO y x):=by
 cases y with
 | non =>
  cases ry
  cases x with
  | non=>cases rx;exact SeqAt.EqAt.same _
  | bl b=>cases rx;exact SeqAt.EqAt.none_bool b
  | int b=>obtain⟨t,rfl⟩:=rx;exact SeqAt.EqAt.none_int b t
  | str b=>obtain⟨t,rfl⟩:=rx;exact SeqAt.EqAt.none_str b t
  | _=>exact absurd (show false=true from fx) U4
 | bl a =>
  cases ry
  cases x with
  | non=>cases rx;exact SeqAt.EqAt.bool_none a
  | bl b=>cases rx;exact SeqAt.EqAt.bool_bool a b
  | int b=>obtain⟨t,rfl⟩:=rx;exact SeqAt.EqAt.bool_int a b t
  | str b=>obtain⟨t,rfl⟩:=rx;exact SeqAt.EqAt.bool_str a b t
  | _=>exact absurd (show false=true from fx) U4
 | int a =>
  obtain⟨t',rfl⟩:=ry
  cases x with
  | non=>cases rx;exact SeqAt.EqAt.int_none a t'
  | bl b=>cases rx;exact SeqAt.EqAt.int_bool a t' b
  | int b=>obtain⟨t,rfl⟩:=rx;exact SeqAt.EqAt.int_int a t' b t
  | str b=>obtain⟨t,rfl⟩:=rx;exact aaQ a t' b t
  | _=>exact absurd (show false=true from fx) U4
 | str a =>
  obtain⟨t',rfl⟩:=ry
  cases x with
  | non=>cases rx;exact SeqAt.EqAt.str_none a t'
  | bl b=>cases rx;exact SeqAt.EqAt.str_bool a t' b
  | int b=>obtain⟨t,rfl⟩:=rx;exact aaR a t' b t
  | str b=>obtain⟨t,rfl⟩:=rx;exact aaW a t' b t
  | _=>exact absurd (show false=true from fx) U4
 | _=>exact absurd (show false=true from fy) U4
def wV x (u:UH):=match u with
 | .none=>DO .non x
 | .bool b=>DO (.bl b) x
 | .int i _=>DO (.int i) x
 | .str z _=>DO (.str z) x
 | _=>false
theorem CH(r:RelV y u)(f:gU y=true):wV x u=DO y x:=by
 cases y with
 | non=>cases r;rfl
 | bl b=>cases r;rfl
 | int i=>obtain⟨t,rfl⟩:=r;rfl
 | str z=>obtain⟨t,rfl⟩:=r;rfl
 | _=>exact absurd (show false=true from f) U4
theorem ke: ∀{xs us},Vals xs us->xs.all gU=true->us.any (wV x)=xs.any λy=>DO y x
 | _,_,.nil,_=>rfl
 | y::xs,u::us,.cons r t,f=>by
  rw[XI,U3] at f;rw[WG,WG,CH r f.1,ke t f.2]
theorem hV(rx:RelV x v)(fx:gU x=true): ∀{xs us},Vals xs us->xs.all gU=true-> ∀ u∈us,SeqAt.EqAt A s u v (wV x u)
 | _,_,.nil,_=>λu hu=>by cases hu
 | y::xs,u::us,.cons r t,f=>λu' hu=>by
  rw[XI,U3] at f;rcases UW.mp hu with rfl | hu
  . rw[CH r f.1];exact LD r rx f.1 fx
  . exact hV rx fx t f.2 u' hu
def jC x (xs:List V):=xs.any λy=>DO y x
def TR(K:UC)(neg:Bool):R2:=λx y H Q=> ∃ p xs,y= .ref p/\(gB K H p xs\/dQ K H p xs)/\gU x=true/\xs.all gU=true/\Q (.bl (if neg then !jC x xs else jC x xs)) H
theorem yX:cC X (Vf .In) (TR X.K false):=by
 intro pins s σ H x y v u Q I rx ry h;obtain⟨p,xs,rfl,hq,fx,fs,q⟩:=h;cases ry;rcases hq with hq | hq
 . obtain⟨aj,r,pl,hz⟩:=I.list hq;refine SeqAt.in_listAt (wV x) pl.isList (λw hw=>hV rx fx r fs w (by simpa using hw)) ⟨.bl _,H,I,rfl,?_⟩;rw[show aj.toArray.any (wV x)=aj.any (wV x) by simp,ke r fs];exact q
 . obtain⟨aj,r,pl,hz⟩:=I.tuple hq;refine SeqAt.in_tupleAt (wV x) pl (λw hw=>hV rx fx r fs w (by simpa using hw)) ⟨.bl _,H,I,rfl,?_⟩;rw[show aj.toArray.any (wV x)=aj.any (wV x) by simp,ke r fs];exact q
theorem rS:cC X (Vf .NotIn) (TR X.K true):=by
 intro pins s σ H x y v u Q I rx ry h;obtain⟨p,xs,rfl,hq,fx,fs,q⟩:=h;cases ry;rcases hq with hq | hq
 . obtain⟨aj,r,pl,hz⟩:=I.list hq;refine SeqAt.notIn_listAt (wV x) pl.isList (λw hw=>hV rx fx r fs w (by simpa using hw)) ⟨.bl _,H,I,rfl,?_⟩;rw[show aj.toArray.any (wV x)=aj.any (wV x) by simp,ke r fs];exact q
 . obtain⟨aj,r,pl,hz⟩:=I.tuple hq;refine SeqAt.notIn_tupleAt (wV x) pl (λw hw=>hV rx fx r fs w (by simpa using hw)) ⟨.bl _,H,I,rfl,?_⟩;rw[show aj.toArray.any (wV x)=aj.any (wV x) by simp,ke r fs];exact q
theorem rX:cC X (Vf .NotIn) (λx y H Q=> ∃ i j,x= .str i/\y= .str j/\Q (.bl (!(!(W5 j i 0 j.length 1).isEmpty))) H):=by
 intro pins s σ H x y v u Q I rx ry h;obtain⟨i,j,rfl,rfl,q⟩:=h;obtain⟨t,rfl⟩:=rx;obtain⟨t',rfl⟩:=ry;exact notIn_str ⟨.bl _,H,I,rfl,q⟩
theorem si:aM X (.builtin "len") (λxs H Q=> ∃ p ys,xs=[.ref p]/\(gB X.K H p ys\/dQ X.K H p ys)/\Q (.int ys.length) H):=by
 intro pins s σ H xs us Q I r h;obtain⟨p,ys,rfl,hq,q⟩:=h;obtain⟨u,rfl,rx⟩:=vals1 r;cases rx;have hn:=kP;rcases hq with hq | hq
 . obtain⟨aj,r',pl,hz⟩:=I.list hq;have hlen:=r'.length;exact Calls.call_len_list pl.isList (by simp only[Vb]<;>omega) ⟨.int ys.length,H,I.tok _,⟨s.toks+1,by rw[Vb,hlen]⟩,q⟩
 . obtain⟨aj,r',pl,hz⟩:=I.tuple hq;have hlen:=r'.length;exact len_tuple pl (by simp only[Vb]<;>omega) ⟨.int ys.length,H,I.tok _,⟨s.toks+1,by rw[Vb,hlen]⟩,q⟩
theorem rP:aM X (.builtin "len") (λxs H Q=> ∃ z,xs=[.str z]/\z.length<=UK/\Q (.int z.length) H):=by
 intro pins s σ H xs us Q I r h;obtain⟨z,rfl,hz,q⟩:=h;obtain⟨u,rfl,t,rfl⟩:=vals1 r;have hn:=kP;exact len_str (by omega) ⟨.int z.length,H,I.tok _,⟨_,rfl⟩,q⟩
theorem aM.or(h:aM X f r)(h':aM X f r'):aM X f (λxs H Q=>r xs H Q\/r' xs H Q):=by
 intro pins s σ H xs us Q I rs q;rcases q with q | q
 . exact h pins s σ H xs us Q I rs q
 . exact h' pins s σ H xs us Q I rs q
theorem rJ:aM X (.type "list") (λxs H Q=> ∃ p ys,xs=[.ref p]/\(gB X.K H p ys\/dQ X.K H p ys)/\ ∀ l,H l=UB->Q (.ref l) (upd H l (.lst ys))):=by
 intro pins s σ H xs us Q I r h;obtain⟨p,ys,rfl,hq,q⟩:=h;obtain⟨u,rfl,rx⟩:=vals1 r;cases rx;have fin: ∀(aj:List UH),Vals ys aj->ys.length<=UK-> ∀(h':VO)(c':Nat),(∀ b o',s.heap.get? b=fv o'->h'.get? b=fv o') ->
   h'.get? s.heap.objs.size=fv { cls:= .type "list",dict:=UB,data:= .seq aj.toArray c',slots:= #[]}->EP X pins σ Q (.ref s.heap.objs.size) { s with heap:=h'}:=λaj r' hz h' c' kp e =>
  ⟨.ref s.heap.objs.size,_,I.laid (t':=s.toks) kp (UL _) (show aW X.prog X.w _ h' _ (.lst ys) from⟨hz,aj,c',r',e⟩),rfl,q _ (I.bb.fresh (UL _))⟩
 rcases hq with hq | hq
 . obtain⟨aj,r',pl,hz⟩:=I.list hq;have hlen:=r'.length;obtain⟨o,ho,hc,n,hd⟩:=pl.isList;exact call_list_seq p (.inl rfl) ho hc hd (λh' c' kp e=>fin aj r' hz h' c' kp e) (by simp only[Vb]<;>omega)
 . obtain⟨aj,r',pl,hz⟩:=I.tuple hq;have hlen:=r'.length;obtain⟨o,ho,hc,n,hd⟩:=pl;exact call_list_seq p (.inr rfl) ho hc hd (λh' c' kp e=>fin aj r' hz h' c' kp e) (by simp only[Vb]<;>omega)
theorem pG:aM X (.type "tuple") (λxs H Q=> ∃ p ys,xs=[.ref p]/\((gB X.K H p ys/\ ∀ l,H l=UB->Q (.ref l) (upd H l (.tup ys)))\/(dQ X.K H p ys/\Q (.ref p) H))):=by
 intro pins s σ H xs us Q I r h;obtain⟨p,ys,rfl,h⟩:=h;obtain⟨u,rfl,rx⟩:=vals1 r;cases rx;rcases h with⟨hq,q⟩ | ⟨hq,q⟩
 . obtain⟨aj,r',pl,hz⟩:=I.list hq;have hlen:=r'.length;refine call_tuple_list pl.isList (λh' kp=>?_) (by simp_all);have I1:=I.kept (t':=s.toks) kp;have I2 :=
    I1.laid (t':=s.toks) (λb o e=>UD _ e) (UL _) (show aW X.prog X.w _ _ _ (.tup ys) from⟨hz,aj,r',oQ.new _ _⟩)
   exact⟨.ref h'.objs.size,_,I2,rfl,q _ (I1.bb.fresh (UL _))⟩
 . obtain⟨aj,r',pl,hz⟩:=I.tuple hq;exact call_tuple_same pl ⟨.ref p,H,I,rfl,q⟩
def Pm(K:UC)(T:String)(x:V)(H:Hp):Prop:=match x with
 | .str _=>T= "str"
 | .int _=>T= "int"
 | .ref p=>(T= "list" /\ ∃ xs,gB K H p xs)\/(T= "tuple" /\ ∃ o,K.lookup p=fv o/\o.cls= .type "tuple" /\o.dict=UB) \/
   (T= "dict" /\((∃ kvs,H p=fv (.dK kvs))\/ ∃ kvs,H p=fv (.dT kvs)))\/(T= "set" /\ ∃ S n,H p=fv (.set S n))
 | _=>False
theorem JV{σ :St}(I:Inv X pins σ H s)(r:RelV x v)(ty:Pm X.K T x H) :
  s.TypeIs v T/\ ∀ a,v= .ref a-> ∃ ob,s.heap.get? a=fv ob/\ob.dict=UB:=by
 cases x with
 | str z =>
  obtain⟨t,rfl⟩:=r
  cases(show T= "str" from ty)
  exact⟨aaV s z t,λ_ e=>by cases e⟩
 | int i =>
  obtain⟨t,rfl⟩:=r
  cases(show T= "int" from ty)
  exact⟨ZQ s i t,λ_ e=>by cases e⟩
 | ref p =>
  cases r
  rcases ty with⟨rfl,xs,hq⟩ | ⟨rfl,o,hk,hc,hd⟩ | ⟨rfl,hk⟩ | ⟨rfl,S,n,hk⟩
  . obtain⟨aj,_,pl,_⟩:=I.list hq;refine⟨pl.isList.typeIs,λa e=>?_⟩;cases e;obtain⟨o,n,e,c,hd,_⟩:=pl;exact⟨o,e,hd⟩
  . refine⟨⟨o,I.ky p o hk,hc⟩,λa e=>?_⟩;cases e;exact⟨o,I.ky _ o hk,hd⟩
  . have z: ∃ o,s.heap.get? p=fv o/\o.ExactDict:=by
     rcases hk with⟨kvs,hk⟩ | ⟨kvs,hk⟩
     . obtain⟨_,_,_,_,o,_,_,e,ex,_⟩:=I.bb p _ hk;exact⟨o,e,ex⟩
     . obtain⟨_,_,_,_,o,_,_,e,ex,_⟩:=I.bb p _ hk;exact⟨o,e,ex⟩
    obtain⟨o,e,ex⟩:=z;refine⟨⟨o,e,ex.1⟩,λa e2=>?_⟩;cases e2;exact⟨o,e,ex.2.1⟩
  . obtain⟨o,_,_,_,e,ex,_⟩:=I.bb p _ hk;refine⟨⟨o,e,ex.1⟩,λa e2=>?_⟩;cases e2;exact⟨o,e,ex.2.1⟩
 | _=>exact Wz ty
noncomputable def SD(K:UC)(T:String)(r:V->List V->Hp->VK->Prop)(to:TE)(t:TA):TE:=fun σ H Q=>to σ H λx H1=>Pm K T x H1/\t σ H1 λxs H2=>r x xs H2 Q
variable{o e:Vu}{es:List Vu}{to:TE}{t:TA}{name:Str}{apos cpos:Pos}{T id:String}{r:V->List V->Hp->VK->Prop}
theorem G5(pa:aaX T)(slot:Slot T name id)(hty:typeOf (.builtin id)=pure (.type "method_descriptor"))(hm:Di X id r)(ho:PE X o to)(ha:PA X (e::es) t)
  (hbase:Xj o name X.env (Wt o X.env)=Wt o X.env:=by rfl)
  (hfew:((Yh cpos (Vk (e::es) X.env)).all (λx=> !x.1)&&(backToKw cpos (abD [] X.env)).all (λx=>x.1.isSome)
   && decide ((e::es).length+([]:List aaB).length+(if ([]:List aaB).isEmpty then 0 else 1) < 30))=true:=by rfl)
  (hline:(apos.endLine == cpos.line)=true:=by rfl) (hs:Vk (e::es) X.env=(false,Wt e X.env)::Vk es X.env:=by rfl) (hplain:(Yh cpos (Vk es X.env)).any (·.1)=false:=by rfl) :
  PE X (.Call (.Attribute o name apos) (e::es) [] cpos) (SD X.K T r to t):=by
 intro pins s σ H Q I h;refine wpAny_Call_method_late hbase hfew hline rfl (gZ (ho pins s σ H _ I h) λv s1 x H1 I1 r1 ⟨ty,q1⟩=>?_);obtain⟨h1,h2⟩:=JV I1 r1 ty;refine⟨T,id,pa,slot,hty,h1,h2,?_⟩;have hA:=ha cpos pins s1 σ H1 _ I1 q1;rw[hs] at hA ⊢;refine ZR (by show(false||(Yh cpos (Vk es X.env)).any (·.1))=false;rw[hplain]<;>rfl) (aak ?_)
 exact Ad hA λus s2 vs H2 I2 r2 q2=>hm pins s2 σ H2 x vs v us Q I2 r1 r2 q2
/- xs.append(e),list.index on a module's tuple .. are Di facts of 06m -/
end
def Qm X (id:String) (r:V->List V->Hp->VK->Prop) :=
 ∀ pins s(σ :St) H x xs v us Q,Inv X pins σ H s->RelV x v->Vals xs us->r x xs H Q ->
  U2 (U8 X.prog X.w) X.A (call (.builtin id) (v::us)) (EP X pins σ Q) X.xe s
theorem Vals.one{x:V}{us:List UH}(h:Vals [x] us): ∃ u,us=[u]/\RelV x u:=by
 cases h with
 | cons r t=>cases t;exact⟨_,rfl,r⟩
theorem Vals.two{x y:V}{us:List UH}(h:Vals [x,y] us): ∃ u v,us=[u,v]/\RelV x u/\RelV y v:=by
 cases h with
 | cons r t=>cases t with
  | cons q t=>cases t;exact⟨_,_,rfl,r,q⟩
theorem Vals.zero: ∀{us},Vals [] us->us=[]
 | _,.nil=>rfl
theorem Vals.rep(h:Vals xs us): ∀ k ,Vals (UN k xs).flatten (UN k us).flatten
 | 0=> .nil
 | k+1=>by
  exact Vals.append h (Vals.rep h k)
theorem foldl_rep(aj:List UH): ∀ k acc,
  abW (λx1 x2=>x1++x2) acc.toArray (UN k aj.toArray)=(acc++(UN k aj).flatten).toArray
 | 0,acc=>by simp
 | k+1,acc=>by
  have e:acc.toArray++aj.toArray=(acc++aj).toArray:=by simp
  have e2:(acc++aj)++(UN k aj).flatten=acc++(UN (k+1) aj).flatten:=by
   rw[aaG,List.flatten_cons,Vm]
  rw[<- e2,<- foldl_rep aj k (acc++aj),<- e,aaG,List.foldl_cons]
section
variable{X:Cx}{pins:List (U0 × Obj)}{σ :St}{H:Hp}{s:UM}{l b:U0}{xs ys zs:List V}
theorem Inv.Oh{aj its':List UH}{n:Nat}{f:Array UH->Array UH}{t':Nat}(I:Inv X pins σ H s)(hH:H l=fv (.lst xs))
  (e:s.heap.get? l=fv { cls:= .type "list",data:= .seq aj.toArray n}) (hf:f aj.toArray=its'.toArray) (hv:Vals ys its') (hz:ys.length<=UK) :
  Inv X pins σ (upd H l (.lst ys)) { s with heap:=s.heap.update l (WV f),toks:=t'}:=by
 have q:=PySem.IsL.update e f;rw[hf] at q;refine I.write (x:=l) (e:=l) (by rw[hH];exact trivial) (.inl rfl) (λb' u hb hu=>(ZP s.heap (WV f) (W2 hb)).trans hu) ⟨_,q⟩ ?_;exact⟨hz,its',_,hv,q⟩
theorem Inv.P4(I:Inv X pins σ H s)(hv:Vals ys aj)(hz:ys.length<=UK) :
  Inv X pins σ (upd H s.heap.objs.size (.lst ys)) { s with heap:=s.heap.push { cls:= .type "list",data:= .seq aj.toArray},toks:=t'} :=
 I.laid (λ_ _ q=>UD _ q) (UL _) ⟨hz,aj,0,hv,UY _ rfl⟩
theorem Inv.fresh(I:Inv X pins σ H s):H s.heap.objs.size=UB:=I.bb.fresh (UL _)
theorem Inv.vB(I:Inv X pins σ H s)(hH:H l=fv (.lst xs)):xs.length<=UK/\ ∃(aj:List UH)(n:Nat),Vals xs aj/\xs.length=aj.length/\s.heap.get? l=fv { cls:= .type "list",data:= .seq aj.toArray n}:=by
 obtain⟨z,aj,n,r,e⟩:=I.bb l _ hH;exact⟨z,aj,n,r,r.length,e⟩
theorem Ac(h:n<=UK):Zm n=false:=by
 exact decide_eq_false (by omega)
end
section
variable{X:Cx}
def DB:V->List V->Hp->VK->Prop:=λx vs H Q=> ∃ l xs y,x= .ref l/\vs=[y]/\H l=fv (.lst xs)/\xs.length < UK/\Q .non (upd H l (.lst (xs++[y])))
theorem y9:Qm X "list.append" DB:=by
 intro pins s σ H x vs v us Q I rx rv h;obtain⟨l,xs,y,rfl,rfl,hH,hz,q⟩:=h;cases rx;obtain⟨u,rfl,ru⟩:=rv.one;obtain⟨z,aj,n,r,hl,e⟩:=I.vB hH;refine WA F.slot_list_append ⟨_,e,rfl⟩ F.entry_list_append (F.args_list_append_2 _ _) (PySem.list_append l aj.toArray n u (by simp_all)) ⟨e,?_⟩;refine⟨.non,_,I.Oh (its':=aj++[u]) hH e (by simp) (r.append (.cons ru .nil)) ?_,rfl,q⟩;rw[U5,aac];omega
def ON:R2:=λx y H Q=> ∃ l b xs zs,x= .ref l/\y= .ref b/\H l=fv (.lst xs)/\H b=fv (.lst zs)/\xs.length+zs.length<=UK/\ ∀ p,H p=UB->Q (.ref p) (upd H p (.lst (xs++zs)))
theorem HR:cC X (VX .Add) ON:=by
 intro pins s σ H x y v u Q I rx ry h;obtain⟨l,b,xs,zs,rfl,rfl,hH,hB,hz,q⟩:=h;cases rx;cases ry;obtain⟨z,aj,n,r,hl,e⟩:=I.vB hH;obtain⟨z2,its2,n2,r2,hl2,e2⟩:=I.vB hB;refine PySem.P.add_list e e2 ?_ (by simp_all);have ea:aj.toArray++its2.toArray=(aj++its2).toArray:=by simp
 rw[ea];exact⟨.ref _,_,I.P4 (t':=s.toks) (r.append r2) (by rw[U5];omega),rfl,q _ I.fresh⟩
def Q7:R2:=λx y H Q=> ∃ l k xs,x= .ref l/\y= .int k/\H l=fv (.lst xs)/\ -(2 ^ 63)<=k/\k < 2 ^ 63/\xs.length*k.toNat<=UK /\
 ∀ p,H p=UB->Q (.ref p) (upd H p (.lst (UN k.toNat xs).flatten))
theorem len_rep{α :Type}(xs:List α) k:(UN k xs).flatten.length=k*xs.length:=by
 simp_all
theorem Ma:cC X (VX .Mult) Q7:=by
 intro pins s σ H x y v u Q I rx ry h;obtain⟨l,k,xs,rfl,rfl,hH,h1,h2,hz,q⟩:=h;cases rx;obtain⟨t,rfl⟩:=ry;obtain⟨z,aj,n,r,hl,e⟩:=I.vB hH;have hlen:aj.toArray.size*k.toNat<=UK:=by rw[Vb,<- hl];exact hz
 have hcap: ¬ aj.toArray.size*k.toNat > (2 ^ 63 - 1) / 8:=by
  have:(UK)<=(2 ^ 63 - 1) / 8:=by decide
  omega
 have hfit: ¬ (!Builtin.List.listFitsIndex k)=true:=by
  rw[fitsIndex_both h1 h2];exact U4
 have hlong: ¬ Zm (aj.toArray.size*k.toNat)=true:=by
  rw[Ac hlen];exact U4
 have hnew:abW (λx1 x2=>x1++x2) #[] (UN (if aj.toArray.isEmpty=true then 0 else k.toNat) aj.toArray)=(UN k.toNat aj).flatten.toArray:=by
  have f0:=λm=>by
   have:=foldl_rep aj m [];rw[VJ] at this;exact this
  rw[f0];cases aj with
  | nil=>simp
  | cons a r'=>rfl
 refine Y4 (T:= "list") (U:= "int") (by decide) ⟨_,e,rfl⟩ (λs'=>ZQ s' k t) noFill_list_mul F.fills_int_mul F.slot_int_rmul repeat_list F.slot_int_index.lookup
  (WA F.slot_int_rmul (ZQ s k t) F.entry_int_rmul (F.args_int_rmul_2 _ _) (int___rmul___int_list k t l aj.toArray n)
   ⟨e,rfl,⟨_,e,rfl⟩,WA F.slot_list_mul ⟨_,e,rfl⟩ F.entry_list_mul (F.args_list_mul_2 _ _) (AutoListH.list___mul___list_int_3 l aj.toArray n k t hfit hcap hlong) ⟨e,?_⟩⟩)
 rw[hnew];exact⟨.ref _,_,I.P4 (t':=s.toks) (r.rep k.toNat) (by rw[len_rep,aa8];exact hz),rfl,q _ I.fresh⟩
end
end L2
namespace Att
open PySem PySem.W PySem.Calls PyProof.Rows
theorem l6: ∀ ns vs,WellAll P h vs (ns.map WData.int)->aa6 vs ns:=by
 intro ns
 induction ns with
 | nil =>
  intro vs w
  cases w
  exact .nil
 | cons n ns ih =>
  intro vs w
  cases w with
  | cons a b =>
   cases a
   exact .cons _ _ (ih _ b)
theorem zT{l : Yp}(hn : l.most = fv n) 
    (hpre : l.row.toRowW.claim.pre args = true) (hwl : WellAll P h vals args) :
    ∃ a vs ns, vals = [U6 a] /\ args = [WData.list (ns.map WData.int)] /\ h.get? a = fv { cls := .type "list", data := .seq vs.toArray} /\ aa6 vs ns /\ ns.length <= n := by
  have hsh : WShape.hasAll [] args [.list .int] = true := (pre_splitW hpre).1;have hc : l.pre.holds [] { args := args} = true := (pre_splitW hpre).2;obtain ⟨d, r, rfl, h1, h2⟩ := hasAllW_cons hsh;obtain rfl := hasAllW_nil h2;obtain ⟨xs, rfl, h3⟩ := hasW_list h1;obtain ⟨ns, rfl⟩ := items_int h3;have hlen : ns.length <= n := by
    have h4 : (WTm.not (.lt (.lit (.int (n))) (.len (.arg 0)))).holds [] { args := [.list (ns.map .int)]} = true := by
      have h4 := (holds_andW hc).1;rw [hn] at h4;exact h4
    have h5 := condW_of h4 (w_not (w_lt w_lit (w_len_list (w_arg rfl))))
    first
      | (exact absurd h5 (by decide))
      | (simp at h5; omega)
  cases hwl with
  | cons w1 w2 =>
    cases w2
    cases w1 with
    | list ho hall => exact ⟨_, _, ns, rfl, rfl, ho, l6 ns _ hall, hlen⟩
theorem yt(l:Yp) args:l.row.toRowW.claim.post args (.bool true) args=true :=
 postW_of (r:=l.row.toRowW) (X:=(true == true))
  (show WShape.has [] (.bool true) .bool=true by first | rfl | decide | simp [WShape.arms])
  (show(WTm.eq .res (.lit (.bool true))).value [] { args:=args,res:=fv (.bool true),after:=args}=fv (.bool (true == true)) from w_eq_bool (w_res rfl) w_lit) rfl
theorem uj{l:Yp}{n:Nat}{q:Vl}{loose:List Str}{XP:(Str->Option UH)->VO->Prop}{YP:VE->VO->Prop}{d:DefRec}
  (hn:l.most=fv n) (hdf:d.params.defaults=[])
  (call: ∀(w:VE)(s₀ s₁ :UM)(mg mb:Str->Option UH)(fa:U0)(o:Obj)(pm cd doc:UH)(a:U0)(vs:List UH)(ns:List Int),
   Ground q loose [] XP w s₀ mg mb s₁.heap->YP w s₁.heap ->
   s₁.heap.get? fa=fv o->o.data= .func (docDef d.name d.params d.body d.scope pm cd doc)->s₁.heap.CodeRec cd d.name->mg d.name=fv (.ref fa) ->
   s₁.heap.get? a=fv { cls:= .type "list",data:= .seq vs.toArray}->aa6 vs ns->ns.length<=n->s₁.gens= #[] ->
   ZM (U8 l.prog w) aaC (.call (.ref fa) ⟨[.ref a],[]⟩) (λr s'=>r= .ok (.ret (.bool true))/\OldK s₁.heap s'.heap/\s'.os=s₁.os/\Y8 s'.gens) s₁) :
  abS q loose XP YP l.row.toRowW d [] (λf vs=>abX f vs):=by
 intro w s₀ s₁ mg mb G Y fa o pm cd doc dV kV ho hd hcd hD hmg hg args vals as hpre hlay hrd hwl hlo;obtain rfl:dV= .none:=Dflts.none hD hdf;obtain rfl:kV= .none:=Dflts.noKw hD;obtain⟨a,vs,ns,rfl,rfl,hobj,hints,hlen⟩:=zT hn hpre hwl;refine enter_call (aa4 (call w s₀ s₁ mg mb fa o pm cd doc a vs ns G Y ho (fd_plain hd) hcd hmg hobj hints hlen hg) λr s' hq=>?_);obtain⟨rfl,h2,h3,h4⟩:=hq;exact⟨.inl ⟨.bool true,.bool true,[],rfl,λ_=>rfl,.bool true,yt l _,λ_=>⟨List.Pairwise.nil,λ_ hm=>(by cases hm)⟩⟩,h2,h3,h4⟩
section
variable{prog:Vl}{w:VE}{A:Wf}{E:UH->UM->Prop}{s:UM}{K:UC}
noncomputable def ledger(h:VO) L d:=(Vq h.objs.size).filterMap λa=>if a=L\/a=d then UB else(h.get? a).map λo=>(a,o)
end
end Att
namespace L2
open PySem PySem.Spec PyProof.Rows
theorem pP: ∀{vs ns},aa6 vs ns->Vals (ns.map V.int) vs
 | _,_,.nil=> .nil
 | _,_,.cons n t h=> .cons ⟨t,rfl⟩ (pP h)
def BD(H:Hp):= ∀ b,H b=UB\/ ∃ o xs,H b=fv (.jx o (.lst xs))
theorem Bq{K} 
  (KX:K.In s₁.heap) (hns:s₁.heap.Ns Vh mg) (hb:s₁.heap.Ns builtinsNs mb) (hbb: ∀ x:Str,x≠ "__name__" ->mb x=VR x) (hlim:s₁.heap.NoLimit) (hg:s₁.gens= #[])
  (ha:s₁.heap.get? a=fv { cls:= .type "list",data:= .seq vs.toArray}) (hi:aa6 vs ns) (hl:ns.length<=UK) (hr:cO k aaC)
  (F: ∀ base ,K.In base->base.Ns Vh mg->j4 P w K mg base CX k fa fd [x] sp) (hbind: ∀ s u,ZL s fd ⟨[u],[]⟩ [(x,u)])
  (hsp: ∀ H ,BD H->gB K H a (ns.map V.int)->sp [.ref a] H (λv _=>v= .bl true) λ_ _ _=>False)
  (hCX: ∀ H e s',CX [] H s₁ (λ_ _ _=>False) e s'->False) :
  ZM (U8 P w) aaC (.call (.ref fa) ⟨[.ref a],[]⟩) (λr s'=>r= .ok (.ret (.bool true))/\OldK s₁.heap s'.heap/\s'.os=s₁.os/\Y8 s'.gens) s₁ :=by
 have rv:=pP hi;have lenV:=hi.length;have core: ∀ H ,BD H->gB K H a (ns.map V.int)->jl P w H s₁.heap->(∀ b,H b≠UB->b=a)->(H a≠UB->K.lookup a=UB) ->
   ZM (U8 P w) aaC (.call (.ref fa) ⟨[.ref a],[]⟩) (λr s'=>r= .ok (.ret (.bool true))/\OldK s₁.heap s'.heap/\s'.os=s₁.os/\Y8 s'.gens) s₁ :=by
  intro H hO hS bb hA hK;have base_of: ∀{b:U0}{o:Obj},s₁.heap.get? b=fv o->H b=UB->(sW s₁.heap H).get? b=fv o:=λe n=>AJ e n;have noA: ∀{b:U0}{o:Obj}{es:Array DictEntry}{ep:Nat},s₁.heap.get? b=fv o->o.data= .dict es ep->H b=UB:=λ{b o es ep} e d=>by
   cases q:H b with
   | none=>rfl
   | some u =>
    have e':=hA b (by rw[q];simp)
    subst e'
    rw[ha] at e;cases e
    have d':=d
    cases d'
  have nsK: ∀{b:U0}{m:Str->Option UH},s₁.heap.Ns b m->(sW s₁.heap H).Ns b m:=λ{b m}=>by rintro ⟨o,es,ep,e,d,r⟩;exact⟨o,es,ep,base_of e (noA e d),d,r⟩
  have hKb:=λb o e=>base_of (KX b o e) (by
   cases q:H b with
   | none=>rfl
   | some u =>
    have e':=hA b (by rw[q];simp)
    subst e'
    rw[hK (by rw[q];simp)] at e;cases e)
  have hM:Mod K mg (sW s₁.heap H):=⟨hKb,nsK hns,⟨mb,nsK hb,hbb⟩,by obtain⟨mc,h1,h2⟩:=hlim;exact⟨mc,nsK h1,h2⟩⟩
  have e0:wj P w K mg (sW s₁.heap H) aaC [] s₁ H:=⟨rfl,hM,λb o e=>FN e,Nat.le_of_eq (yM _ _),trivial,λb hb=>absurd (show b∈([]) from hb) (by simp),bb,.of_eq hg⟩
  refine aa4 ((F _ hKb (nsK hns)).run aaC [] s₁ H ⟨[.ref a],[]⟩ [.ref a] [.ref a] _ _ hr e0 (hbind s₁ (.ref a)) (.cons rfl .nil) (hsp H hO hS)) λr s' h=>?_;cases r with
  | error e=>exact(hCX H e s' h).elim
  | ok fl =>
   cases fl with
   | next=>exact Wz h
   | brk=>exact Wz h
   | cont=>exact Wz h
   | ret u =>
    obtain⟨v,H',os,bare,un,hok',r',q⟩:=h
    have q':=q
    subst q'
    obtain rfl:u=ZJ true:=r'
    refine⟨rfl,OldK.of_keep λb o e=>?_,os,bare⟩
    cases q:H b with
    | none=>exact un.keep b o e q (by intro z;exact absurd (show b∈([]) from z) (by simp)) (by simp)
    | some u =>
     rcases hO b with z | ⟨ob,xs,z⟩
     . rw[q] at z;cases z
     . have z2:=un.ku b ob _ z;obtain⟨e1,_⟩:=bb b _ z;obtain⟨e2,_⟩:=hok' b _ z2;rw[e] at e1;cases e1;exact e2
 cases hk:K.lookup a with
 | some o =>
  have e:=KX a o hk
  rw[ha] at e
  cases e
  refine core (λ_=>UB) (λ_=> .inl rfl) (.inr ⟨_,vs.toArray,_,hk,rfl,rfl,rfl,by simp_all,by omega⟩) (λb u z=>by simp_all) (λb z=>absurd rfl z) λz=>absurd rfl z
 | none =>
  refine core (λb=>if b=a then fv (.jx { cls:= .type "list",data:= .seq vs.toArray} (.lst (ns.map V.int))) else UB) (λb=>?_) (.inl (.inr ⟨{ cls:= .type "list",data:= .seq vs.toArray},if_pos rfl⟩)) (λb u z=>?_) (λb z=>?_) λ_=>hk
  . by_cases hb:b=a
    . exact .inr ⟨_,_,if_pos hb⟩
    . exact .inl (if_neg hb)
  . by_cases hb:b=a
    . have z':=(if_pos hb).symm.trans z;cases z';subst hb;exact⟨ha,by simp_all,vs,_,rv,ha⟩
    . simp_all
  . by_cases hb:b=a
    . exact hb
    . exact absurd (if_neg hb) z
theorem Es{l:Yp}{n k:Nat}{q:Vl}{loose:List Str}{XP:(Str->Option UH)->VO->Prop}{YP:VE->VO->Prop}{d:DefRec}{K:Params->UC}{CX:VE->Hr}{sp:VE->Sp}{x:Str}
  (hn:l.most=fv n) (hn2:n<=UK) (hdf:d.params.defaults=[]) (hr:cO k aaC)
  (hY: ∀(w:VE)(h:VO),YP w h->(K w.params).In h)
  (F: ∀(w:VE)(mg:Str->Option UH)(fa:U0)(h:VO),(K w.params).In h->h.Ns Vh mg->mg d.name=fv (.ref fa) ->
   ∃ fd:XE,(∀(s:UM)(u:UH),ZL s fd ⟨[u],[]⟩ [(x,u)]) /\
    ∀ base:VO,(K w.params).In base->base.Ns Vh mg->j4 l.prog w (K w.params) mg base (CX w) k fa fd [x] (sp w))
  (hsp: ∀(w:VE)(H:Hp)(a:U0)(ns:List Int),ns.length<=n->BD H->gB (K w.params) H a (ns.map V.int)->sp w [.ref a] H (λv _=>v= .bl true) λ_ _ _=>False)
  (hCX: ∀(w:VE)(H:Hp)(s:UM)(e:UH)(s':UM),CX w [] H s (λ_ _ _=>False) e s'->False) :
  abS q loose XP YP l.row.toRowW d [] (λf vs=>abX f vs):=by
 refine Att.uj hn hdf λw s₀ s₁ mg mb fa o pm cd doc a vs ns G Y ho hd hcd hmg hobj hints hlen hg=>?_;have KX:=hY w _ Y;obtain ⟨fd,hb,hF⟩:=F w mg fa _ KX G.T.g hmg;exact Bq KX G.T.g G.T.b G.T.builtins G.T.nolimit hg hobj hints (Va hlen hn2) hr hF hb (λH hO hS=>hsp w H a ns hlen hO hS) λH e s'=>hCX w H s₁ e s'
end L2
/- THE LAST THEOREM (shape; LID, My.* are yours):
   My.Adr: a structure of the addresses that your layer names (classes, functions); My.Txt K t: a structure (Prop) of the equations over K;
   My.txt_mk : {K} {implicit addresses ..} (e1 : V4 K Vh "law" = fv (fv (.ref f))) (e2 : K.lookup f = fv ⟨oc, od, .func (V2 "law" "law" params body scope dV kV doc pm an cdv ct), sl⟩) (e3 : ZS K cdv "law" = true) .. : ∃ t, My.Txt K t
set_option maxRecDepth 100000 in
(the tactic k_is has no namespace:write k_is) -/
namespace L2
open PySem PySem.Spec PyProof.Rows
noncomputable def cA(s:Z8):=match s with
 | .FunctionDef _ a _ _ _ _ _ _ _ _=>a
 | _=>{ posonlyargs:=[],args:=[],vararg:=UB,kwonlyargs:=[],kw_defaults:=[],kwarg:=UB,defaults:=[]}
noncomputable def bo(s:Z8):=match s with
 | .FunctionDef _ _ b _ _ _ _ _ _ _=>b
 | _=>[]
noncomputable def az(s:Z8):=match s with
 | .FunctionDef _ _ _ _ _ _ sc _ _ _=>sc
 | _=>{ kind:= .function,names:=[],isGenerator:=false,isCoroutine:=false}
abbrev uQ:Hr:=λ_ _ _ _ _ _=>False
abbrev E0:XK:=λ_ _ _=>False
theorem OP:Passes uQ X E0:=λ_ _ _ _ _ _ _ h=>h.elim
structure zU(K:UC)(x qual:Str)(st:Z8)(f:U0)(fd:XE):Prop where
 ex: ∃(oc:UH)(od:Option U0)(kV doc pm:UH)(an:Option U0)(cdv ct:UH)(osl:Array (Option UH)),
  fd=V2 x qual (cA st) (bo st) (az st) .none kV doc pm an cdv ct/\K.lookup f=fv ⟨oc,od,.func fd,osl⟩/\ZS K cdv qual=true
 kp:W7 K (.ref f)=true
section
variable{P:Vl}{w:VE}{K:UC}{mg:Str->Option UH}{base:VO}
theorem zU.ok{st}(F:zU K x qual st f fd)(S:dZ N ps (az st))(len: ∀ vs H Q E,sp vs H Q E->vs.length=ps.length)
  (hbody: ∀ cdv A outer s H vs Q E,cO k (A.deeper (YT qual (az st) s.heap.objs.size f cdv))->sp vs H Q E ->
   ∃ t,vU (jZ uQ P w K mg base N qual (az st) f cdv A outer s H E).sC (bo st) t/\t { nx:=λ_ H'=>Q .non H',rt:=Q} (start N vs) H):j4 P w K mg base uQ (k+1) f fd ps sp:=by
 obtain⟨oc,od,kV,doc,pm,an,cdv,ct,osl,rfl,lk,hcd⟩:=F.ex;refine N4 lk hcd S len λA outer s H vs Q E hr hsp=>?_;obtain⟨t,h,q⟩:=hbody cdv A outer s H vs Q E hr hsp;exact⟨t,h.sC,q⟩
theorem zU.binds{st}(F:zU K x qual st f fd)
  (h: ∀ kV doc pm an cdv ct us,us.length=ps.length->XF (V2 x qual (cA st) (bo st) (az st) .none kV doc pm an cdv ct) ⟨us,[]⟩=pure (ps.zip us)):Binds K fd ps []:=by
 obtain⟨oc,od,kV,doc,pm,an,cdv,ct,osl,rfl,lk,hcd⟩:=F.ex;exact .all (h kV doc pm an cdv ct)
theorem K7{st kV}(l:K.lookup f=fv ⟨oc,od,.func (V2 x qual (cA st) (bo st) (az st) .none kV doc pm an cdv ct),osl⟩)
  (c:ZS K cdv qual=true) (k:W7 K (.ref f)=true):zU K x qual st f (V2 x qual (cA st) (bo st) (az st) .none kV doc pm an cdv ct):=⟨⟨oc,od,kV,doc,pm,an,cdv,ct,osl,rfl,l,c⟩,k⟩
end
theorem Pl(hr:cO k A):A.units+1 < XD:=YV (Nat.add_le_add_left (by decide) _) hr.units
def l8(H H':Hp):= ∀ b o,H b=fv o->H' b=fv o
theorem l8.trans(a:l8 H H1)(b:l8 H1 H2):l8 H H2:=λc o h=>b c o (a c o h)
theorem l8.free(e:l8 H H')(h:H' l=UB):H l=UB:=by
 cases q:H l with
 | none=>rfl
 | some o =>
  rw[e l o q] at h
  cases h
open PySem PySem.W PyProof.Rows
section
variable{κ :Type}[DecidableEq κ]
noncomputable def gj(kvs:List (κ × V)) k:=(kvs.find? λkv=>decide (kv.1=k)).map (·.2)
noncomputable def putK kvs (k: κ) (v:V) :=
 if (kvs.any λkv=>decide (kv.1=k))=true then kvs.map (λkv=>if kv.1=k then(kv.1,v) else kv) else kvs++[(k,v)]
theorem nP{k: κ}(e:p.1=k):gj (p::r) k=fv p.2:=by simp[gj,e]
theorem oz{k: κ}(e: ¬ p.1=k):gj (p::r) k=gj r k:=by simp[gj,e]
theorem uJ(k: κ): ∀ kvs ,(kvs.any λkv=>decide (kv.1=k))=(gj kvs k).isSome
 | []=>rfl
 | p::r=>by
  rw[WG];by_cases e:p.1=k
  . simp only[nP e,decide_eq_true e,Bool.true_or,aaY]
  . rw[oz e,decide_eq_false e];exact uJ k r
theorem hI kvs (k: κ) v:(putK kvs k v).length<=kvs.length+1:=by
 unfold putK;split
 . simp_all
 . simp_all
theorem kb.fW(r:kb o u):o.isSome=u.isSome:=by
 cases o with
 | none=>cases u with
  | none=>rfl
  | some _=>exact(show False from r).elim
 | some _=>cases u with
  | none=>exact(show False from r).elim
  | some _=>rfl
theorem kb.getD(r:kb o u)(rd:RelV d d'):RelV (o.getD d) (u.getD d'):=by
 cases o with
 | none=>cases u with
  | none=>exact rd
  | some _=>exact(show False from r).elim
 | some _=>cases u with
  | none=>exact(show False from r).elim
  | some _=>exact r
theorem KV.val(r:KV kvs vs)(k: κ):kb (gj kvs k) (ZT vs k):=by
 induction r with
 | nil=>exact WI
 | @cons p q ps qs h t ih =>
  obtain⟨h1,h2⟩:=h
  by_cases e:p.1=k
  . have e':=h1.symm.trans e;have b:ZT (q::qs) k=fv q.2:=by simp[ZT,e']
    rw[nP e,b];exact h2
  . have e': ¬ q.1=k:=λz=>e (h1.trans z);have b:ZT (q::qs) k=ZT qs k:=by simp[ZT,e']
    rw[oz e,b];exact ih
theorem KV.any(r:KV kvs vs)(k: κ):(kvs.any λkv=>decide (kv.1=k))=vs.any λkv=>decide (kv.1=k):=by
 induction r with
 | nil=>rfl
 | cons h t ih=>simp_all
theorem KV.IK(r:KV kvs vs)(k: κ)(ry:RelV y u) :
  KV (kvs.map λkv=>if kv.1=k then(kv.1,y) else kv) (vs.map λkv=>if kv.1=k then(kv.1,u) else kv):=by
 induction r with
 | nil=>exact .nil
 | @cons p q ps qs h t ih =>
  rw[UP,UP]
  refine .cons ?_ ih
  obtain⟨h1,h2⟩:=h
  by_cases e:p.1=k
  . rw[if_pos e,if_pos (h1.symm.trans e)];exact⟨h1,ry⟩
  . rw[if_neg e,if_neg (λz=>e (h1.trans z))];exact⟨h1,h2⟩
theorem KV.put(r:KV kvs vs)(k: κ)(ry:RelV y u):KV (putK kvs k y) (stored vs k u):=by
 unfold putK stored;rw[r.any k];by_cases e:(vs.any λkv=>decide (kv.1=k))=true
 . rw[if_pos e,if_pos e];exact r.IK k ry
 . rw[if_neg e,if_neg e];exact ab7 r ⟨rfl,ry⟩
theorem KV.keys{kvs:List (κ × V)}{vs:List (κ × UH)}(r:KV kvs vs):kvs.map (·.1)=vs.map (·.1):=by
 induction r with
 | nil=>rfl
 | cons h t ih=>simp_all
theorem KV.length{kvs:List (κ × V)}{vs:List (κ × UH)}(r:KV kvs vs):kvs.length=vs.length:=XC r
end
theorem jN(r:RelV (kV k) u):(aJ P w).is k u=true:=by
 cases k with
 | inl i=>obtain⟨t,e⟩:=(show ∃ t,u=Xq i t from r);subst e;exact tT P w i t
 | inr x=>obtain⟨t,e⟩:=(show ∃ t,u=Yg x t from r);subst e;exact tU P w x t
theorem pO: ∀{ks us},Vals (ks.map kV) us->ItemsAre (aJ P w) ks us
 | [],_,r=>by cases r;exact .nil
 | k::ks,_,r=>by
  cases r with
  | cons h t=>exact .cons (jN h) (pO t)
abbrev KT(H:Hp):List (List Key × V)->List (List Key × U0 × UH)->Prop:=VH λp q=>p.1=q.1/\H q.2.1=fv (.tup (p.1.map kV))/\RelV p.2 q.2.2
theorem KT.val(r:KT H kvs xs) k:kb (gj kvs k) ((abE xs k).map (·.2)):=by
 induction r with
 | nil=>exact WI
 | @cons p q ps qs h t ih =>
  obtain⟨h1,_,h2⟩:=h
  by_cases e:p.1=k
  . have e':=h1.symm.trans e;have b:abE (q::qs) k=fv q.2:=by simp[abE,e']
    rw[nP e,b];exact h2
  . have e': ¬ q.1=k:=λz=>e (h1.trans z);have b:abE (q::qs) k=abE qs k:=by simp[abE,e']
    rw[oz e,b];exact ih
theorem KT.IK(r:KT H kvs xs) k (ry:RelV y u) :
  KT H (kvs.map λkv=>if kv.1=k then(kv.1,y) else kv) (xs.map (putAt k u)):=by
 induction r with
 | nil=>exact .nil
 | @cons p q ps qs h t ih =>
  rw[UP]
  refine .cons ?_ ih
  obtain⟨h1,h2,h3⟩:=h
  unfold putAt
  by_cases e:p.1=k
  . rw[if_pos e,if_pos (h1.symm.trans e)];exact⟨h1,h2,ry⟩
  . rw[if_neg e,if_neg (λz=>e (h1.trans z))];exact⟨h1,h2,h3⟩
theorem KT.put(r:KT H kvs xs) k (hb:H b=fv (.tup (k.map kV))) (ry:RelV y u) :
  KT H (putK kvs k y) (storedH xs k b u):=by
 have e:(kvs.any λkv=>decide (kv.1=k))=(abE xs k).isSome:=by
  rw[uJ,(r.val k).fW,Zd]
 unfold putK storedH;rw[e];by_cases q:(abE xs k).isSome=true
 . rw[if_pos q,if_pos q];exact r.IK k ry
 . rw[if_neg q,if_neg q];exact ab7 r ⟨rfl,hb,ry⟩
theorem KT.keeps(r:KT H kvs xs)(ht: ∀ b ys,H b=fv (.tup ys)->H' b=fv (.tup ys)):KT H' kvs xs :=
 Paired.zE r λ_ _ z=>⟨z.1,ht _ _ z.2.1,z.2.2⟩
section
variable{P:Vl}{w:VE}{H:Hp}{h:VO}{a:U0}
theorem G7(ok:jl P w H h)(e:Rd H a u):aW P w H h a u:=e.ok ok
theorem lB(ok:jl P w H h)(e:Rd H a (.dK kvs)):kvs.length<=UK/\(a == VP)=false/\ ∃ vs,KV kvs vs/\h.DictOf (aJ P w) a vs :=
 show aW P w H h a (.dK kvs) from G7 ok e
theorem tu(ok:jl P w H h)(e:H a=fv (.dK kvs)):kvs.length<=UK/\(a == VP)=false/\ ∃ vs,KV kvs vs/\h.DictOf (aJ P w) a vs:=lB ok (.inl e)
theorem kF(ok:jl P w H h)(e:H a=fv (.tup (ks.map kV))):(Zu (aJ P w)).is h ks a:=by
 obtain⟨_,aj,r,o,h1,h2,n,h3,_⟩:=(show aW P w H h a (.tup (ks.map kV)) from ok a _ e)
 exact⟨o,aj.toArray,n,h1,h2,h3,by simpa using pO r⟩
theorem oE(ok:jl P w H h)(e:Rd H a (.dT kvs)):kvs.length<=UK/\(a == VP)=false /\
  ∃ xs,KT H kvs xs/\h.DictOfH (Zu (aJ P w)) a xs:=by
 obtain⟨z,y,xs,r,o,es,ep,h1,h2,h3,h4,h5⟩:=(show aW P w H h a (.dT kvs) from G7 ok e)
 refine⟨z,y,xs,r,o,es,ep,h1,h2,h3,h4,λx hx=>?_,h5⟩;have all: ∀{l m},KT H l m-> ∀ x∈m,(Zu (aJ P w)).is h x.1 x.2.1:=by
  intro l m q
  induction q with
  | nil=>simp_all
  | @cons p q ps qs hq t ih =>
   intro x hx
   rcases UW.mp hx with e | hx
   . subst e;exact kF ok (by rw[<- hq.1];exact hq.2.1)
   . exact ih x hx
 exact all r x hx
theorem Nr(ok:jl P w H h)(e:H a=fv (.dT kvs)):kvs.length<=UK/\(a == VP)=false /\
  ∃ xs,KT H kvs xs/\h.DictOfH (Zu (aJ P w)) a xs:=oE ok (.inl e)
end
def i8 H (a:U0) y (r:Option V) :=
 (∃ kvs k,Rd H a (.dK kvs)/\y=kV k/\r=gj kvs k)\/ ∃ kvs k b,Rd H a (.dT kvs)/\y= .ref b/\H b=fv (.tup (k.map kV))/\r=gj kvs k
def wu H (a:U0) y v H' :=
 (∃ kvs k,H a=fv (.dK kvs)/\y=kV k/\kvs.length < UK/\H'=upd H a (.dK (putK kvs k v))) \/
 ∃ kvs k b,H a=fv (.dT kvs)/\y= .ref b/\H b=fv (.tup (k.map kV))/\kvs.length < UK/\H'=upd H a (.dT (putK kvs k v))
theorem i8.k{H:Hp}{a:U0}{kvs:List (Key × V)}{k:Key}(e:H a=fv (.dK kvs)):i8 H a (kV k) (gj kvs k):= .inl ⟨kvs,k,.inl e,rfl,rfl⟩
theorem i8.t{H:Hp}{a b:U0}{kvs:List (List Key × V)}{k:List Key}(e:H a=fv (.dT kvs))(eb:H b=fv (.tup (k.map kV))):i8 H a (.ref b) (gj kvs k):= .inr ⟨kvs,k,b,.inl e,rfl,eb,rfl⟩
theorem wu.k{H:Hp}{a:U0}{kvs:List (Key × V)}{k:Key}{v:V}(e:H a=fv (.dK kvs))(hl:kvs.length < UK):wu H a (kV k) v (upd H a (.dK (putK kvs k v))):= .inl ⟨kvs,k,e,rfl,hl,rfl⟩
theorem wu.t{H:Hp}{a b:U0}{kvs:List (List Key × V)}{k:List Key}{v:V}(e:H a=fv (.dT kvs))(eb:H b=fv (.tup (k.map kV)))(hl:kvs.length < UK) :
  wu H a (.ref b) v (upd H a (.dT (putK kvs k v))):= .inr ⟨kvs,k,b,e,rfl,eb,hl,rfl⟩
section
variable{X:Cx}{pins:List (U0 × Obj)}{σ :St}{H:Hp}{s:UM}{a:U0}{y v:V}{u r:UH}{o:Option V}{A:Wf}{E:UH->UM->Prop}
theorem Inv.big(I:Inv X pins σ H s):VP < s.heap.objs.size:=by
 have h:=(I.mod.glob.keeps I.bk).lt;exact YF (by decide) h
theorem yU(hu:A.units+1 < XD)(I:Inv X pins σ H s)(g:i8 H a y (fv v))(ry:RelV y u)(h: ∀ w' s',Inv X pins σ H s'->RelV v w'->Q w' s') :
  U2 (U8 X.prog X.w) A (YE (.ref a) u) Q E s:=by
 rcases g with⟨kvs,k,e,ey,l⟩ | ⟨kvs,k,b,e,ey,eb,l⟩
 . subst ey;obtain⟨z,hd,vs,rel,dd⟩:=lB I.bb e;obtain⟨w',hw,rw'⟩:=kb.some_of (v:=v) (o:=ZT vs k) (by rw[l];exact rel.val k);exact wpAny_getItem_of (jN ry) dd.mapOf hw (h w' _ (I.tok _) rw')
 . subst ey;cases(show u=U6 b from ry);obtain⟨z,hd,xs,rel,dd⟩:=oE I.bb e;obtain⟨w',hw,rw'⟩:=kb.some_of (v:=v) (o:=(abE xs k).map (·.2)) (by rw[l];exact rel.val k)
   obtain⟨p,hp,hp2⟩:=Option.map_eq_some_iff.mp hw;refine wpAny_getItem_heap (Xb hu) (kF I.bb eb) dd hp ?_;rw[hp2];exact h w' _ (I.tok _) rw'
theorem Rt{Q:UH->UM->Prop}(hu:A.units+1 < XD)(I:Inv X pins σ H s)(g:i8 H a y o)(ry:RelV y u)(h: ∀ s',Inv X pins σ H s'->Q (.bool o.isSome) s') :
  U2 (U8 X.prog X.w) A (Vf .In u (.ref a)) Q E s:=by
 rcases g with⟨kvs,k,e,ey,l⟩ | ⟨kvs,k,b,e,ey,eb,l⟩
 . subst ey;obtain⟨z,hd,vs,rel,dd⟩:=lB I.bb e;refine wpAny_in_of (jN ry) hd dd.mapOf ?_;rw[<- (rel.val k).fW,<- l];exact h _ (I.tok _)
 . subst ey;cases(show u=U6 b from ry);obtain⟨z,hd,xs,rel,dd⟩:=oE I.bb e;refine wpAny_in_heap (Xb hu) (kF I.bb eb) hd dd ?_;have q:=(rel.val k).fW;rw[Zd] at q;rw[<- q,<- l];exact h _ (I.tok _)
theorem En{Q:UH->UM->Prop}(hu:A.units+1 < XD)(I:Inv X pins σ H s)(g:i8 H a y o)(ry:RelV y u)(h: ∀ s',Inv X pins σ H s'->Q (.bool (!o.isSome)) s') :
  U2 (U8 X.prog X.w) A (Vf .NotIn u (.ref a)) Q E s:=by
 rcases g with⟨kvs,k,e,ey,l⟩ | ⟨kvs,k,b,e,ey,eb,l⟩
 . subst ey;obtain⟨z,hd,vs,rel,dd⟩:=lB I.bb e;refine wpAny_notIn_of (jN ry) hd dd.mapOf ?_;rw[<- (rel.val k).fW,<- l];exact h _ (I.tok _)
 . subst ey;cases(show u=U6 b from ry);obtain⟨z,hd,xs,rel,dd⟩:=oE I.bb e;refine wpAny_notIn_heap (Xb hu) (kF I.bb eb) hd dd ?_;have q:=(rel.val k).fW;rw[Zd] at q;rw[<- q,<- l];exact h _ (I.tok _)
theorem sf(I:Inv X pins σ H s)(mu:OY (H a))(hs:ZK a s.heap h')(he: ∃ q,h'.get? a=fv q)(new:aW X.prog X.w (upd H a ob) h' a ob) :
  Inv X pins σ (upd H a ob) { s with heap:=h',toks:=t'} :=
 I.write (x:=a) (e:=a) mu (.inl rfl) (λb q hb z=>(hs.2 b hb).trans z) he new
theorem rQ(z:kvs.length<=UK)(hd:(a == VP)=false)(rel:KV kvs vs)(dd:h'.DictOf (aJ P w) a vs) :
  aW P w H' h' a (.dK kvs):=⟨z,hd,vs,rel,dd⟩
theorem zg{H':Hp}{Q:Unit->UM->Prop}(hu:A.units+1 < XD)(I:Inv X pins σ H s)(g:wu H a y v H')(ry:RelV y u)(rv:RelV v r)(h: ∀ s',Inv X pins σ H' s'->Q () s') :
  U2 (U8 X.prog X.w) A (setItem (.ref a) u r) Q E s:=by
 rcases g with⟨kvs,k,e,ey,l,eH⟩ | ⟨kvs,k,b,e,ey,eb,l,eH⟩
 . subst ey eH;obtain⟨z,hd,vs,rel,dd⟩:=tu I.bb e;have hz:vs.length<=UK:=by rw[<- rel.length];exact z
   have hl:(putK kvs k v).length<=UK:=by have:=hI kvs k v;omega
   refine wpAny_setItem_pairs (hsz:=hz) (jN ry) dd λh' dd' hs=>h _ ?_;have he: ∃ q,h'.get? a=fv q:=by obtain⟨q,_,_,hq,_⟩:=dd';exact⟨q,hq⟩
   exact sf I (by rw[e];exact WI) hs he (rQ hl hd (rel.put k rv) dd')
 . subst ey eH;cases(show u=U6 b from ry);obtain⟨z,hd,xs,rel,dd⟩:=Nr I.bb e;have hz:xs.length<=UK:=by rw[<- XC rel];exact z
   have hl:(putK kvs k v).length<=UK:=by have:=hI kvs k v;omega
   refine wpAny_setItem_heap (hsz:=hz) (Xb hu) (kF I.bb eb) dd λh' dd' hs=>h _ ?_;obtain⟨q,es,ep,hq,h2,h3,h4,_,h5⟩:=dd';refine sf I (by rw[e];exact WI) hs ⟨q,hq⟩ ⟨hl,hd,_,(rel.put k eb rv).keeps λc ys ec=>?_,q,es,ep,hq,h2,h3,h4,h5⟩;rw[ax (qj ec e (λz=>by cases z))];exact ec
end
section
variable{X:Cx}{pins:List (U0 × Obj)}{σ :St}{H:Hp}{s:UM}{a:U0}{kvs:List (Key × V)}{k:Key}{u:UH}{A:Wf}{E:UH->UM->Prop}
theorem Ol{Q:UH->UM->Prop}(I:Inv X pins σ H s)(e:Rd H a (.dK kvs))(h: ∀ t s',Inv X pins σ H s'->Q (.int kvs.length t) s'):U2 (U8 X.prog X.w) A (call (.builtin "len") [.ref a]) Q E s:=by
 obtain⟨z,hd,vs,rel,dd⟩:=lB I.bb e;refine call_len_dict hd dd (by rw[<- rel.length];rw[sizeLine_eq] at z;omega) ?_;rw[<- rel.length];exact h _ _ (I.tok _)
end
def GI i:= ∀ ov iv,Zb i false ov iv=operate [ov,iv] (YE ov iv)
theorem Fm{id} 
    (hl : typeLookup (.type T) "__getitem__" = pure (fv (.builtin id))) (hs : GI slice)
    (h : U2 (U8 prog w) A (Wt value env) (λo s₁ => U2 (U8 prog w) A (Wt slice env) (λi s₂ => s₂.TypeIs o T /\ U2 (U8 prog w) A (YE o i) Q E s₂) E s₁) E s) :
    U2 (U8 prog w) A (Wt (.Subscript value slice pos) env) Q E s := by
  refine Subscript_ (Vo h (λo s₁ h₁ => Vo h₁ (λi s₂ h₂ => ?_) λ_ _ x => x) λ_ _ x => x);obtain ⟨hT, h₂⟩ := h₂;refine UA ?_;refine UA (Z3 hT hl ?_);have fin : U2 (U8 prog w) A (Zb slice false o i) (λr s₃ => U2 (U8 prog w) A (letTemporaryGo value o r >>= λ_ => pure r) Q E s₃) E s₂ := by
    rw [hs o i];exact wpAny_operating (Vo h₂ (λr s₃ h₃ => UA (aal (UO h₃))) λ_ _ x => x)
  first
    | exact UO (UA fin)
    | exact UA (UO (UA fin))
    | exact UA fin
theorem uo{σ :St}(I:Inv X pins σ H s)(g:i8 H a y o):s.TypeIs (.ref a) "dict" :=by
 rcases g with⟨kvs,k,e,_,_⟩ | ⟨kvs,k,b,e,_,_,_⟩
 . obtain⟨_,_,vs,_,dd⟩:=lB I.bb e;exact dd.typeIs
 . obtain⟨_,_,xs,_,dd⟩:=oE I.bb e;exact dd.typeIs
theorem BQ(h:VO)(hb:VP < h.objs.size):aW P w H (h.push { cls:= .type "dict",data:= .dict #[]}) h.objs.size (.dK []) :=
 ⟨Vw _,beq_eq_false_iff_ne.mpr (W2 (U7 hb)),[],.nil,Z4 h⟩
def kH:List (TE × TE)->St->Hp->(List (V × V)->Hp->Prop)->Prop
 | [],_,H,Q=>Q [] H
 | (tk,tv)::r, σ,H,Q=>tk σ H λx H1=>tv σ H1 λy H2=>kH r σ H2 λps H3=>Q ((x,y)::ps) H3
abbrev VV:List (V × V)->List (UH × UH)->Prop:=VH λp q=>RelV p.1 q.1∧RelV p.2 q.2
def NT X pos (keys:List (Option Vu)) (values:List Vu) (trs:List (TE × TE)) :=
 ∀ pins s(σ :St) H Q,Inv X pins σ H s->kH trs σ H Q ->
  U2 (U8 X.prog X.w) X.A (evalPairs (pairTrees keys values X.env pos)) (λvs s'=> ∃ ps H',Inv X pins σ H' s'/\VV ps vs/\Q ps H') X.xe s
theorem EM:NT X pos [] [] []:=λpins s σ H Q I h=>pairTrees_nil_walk ⟨[],H,I,.nil,h⟩
theorem Ar(hk:PE X k tk)(hv:PE X v tv)(hr:NT X pos ks vs trs) :
  NT X pos (fv k::ks) (v::vs) ((tk,tv)::trs):=λpins s σ H Q I h =>
 pairTrees_cons_walk (gZ (hk pins s σ H _ I h) λu s1 x H1 I1 rx q1=>gZ (hv pins s1 σ H1 _ I1 q1) λw2 s2 y H2 I2 ry q2 =>
  oF (hr pins s2 σ H2 _ I2 q2) λws s3=>by rintro ⟨ps,H3,I3,rel,q3⟩;exact⟨(x,y)::ps,H3,I3,.cons ⟨rx,ry⟩ rel,q3⟩)
def cq(kvs more:List (Key × V)):=more.foldl (λacc kv=>putK acc kv.1 kv.2) kvs
theorem KV.merge: ∀{more rs kvs vs},KV more rs->KV kvs vs->KV (cq kvs more) (merged vs rs):=by
 intro more rs kvs vs r
 induction r generalizing kvs vs with
 | nil=>intro q;exact q
 | @cons p q ps qs h t ih =>
  intro r0
  have e:KV (putK kvs p.1 p.2) (stored vs q.1 q.2):=by
   have:=r0.put p.1 h.2;rw[<- h.1];exact this
  exact ih e
theorem dE: ∀ more kvs,(cq kvs more).length<=kvs.length+more.length
 | [],kvs=>by show kvs.length<=kvs.length+0;omega
 | p::r,kvs=>by
  have h1:=dE r (putK kvs p.1 p.2);have h2:=hI kvs p.1 p.2;show(cq (putK kvs p.1 p.2) r).length<=_;rw[UU];omega
theorem ny: ∀{kvs ws},VV (kvs.map λkv=>(kV kv.1,kv.2)) ws-> ∃ rs,Carries (aJ P w) ws rs/\KV kvs rs
 | [],_,r=>by cases r;exact⟨[],WI,.nil⟩
 | p::kvs,_,r=>by
  cases r with
  | @cons a b as bs h t =>
   obtain⟨rs,c,q⟩:=ny (P:=P) (w:=w) t
   obtain⟨b1,b2⟩:=b
   exact⟨(p.1,b2)::rs,⟨jN h.1,rfl,c⟩,.cons ⟨rfl,h.2⟩ q⟩
def G0(trs:List (TE × TE)):TE:=fun σ H Q=> ∀ p,H p=UB->kH trs σ (upd H p (.dK [])) λps H2=>H2 p=fv (.dK [])/\ ∃ kvs ,ps=kvs.map (λkv=>(kV kv.1,kv.2))/\kvs.length<=15/\Q (.ref p) (upd H2 p (.dK (cq [] kvs)))
theorem D9(h:NT X pos keys values trs)(hall:keys.all (·.isSome)=true)(hl:keys.length=values.length)(h0:keys≠[])
  (h15:keys.length<=15):PE X (.Dict keys values pos) (G0 trs):=by
 intro pins s σ H Q I q;have hn:=I.bb.fresh (UL s.heap.objs.size);have I1:=I.laid (a:=s.heap.objs.size) (o:= .dK []) (h':=s.heap.push { cls:= .type "dict",data:= .dict #[]}) (t':=s.toks) (λ_ _ q=>UD _ q) (UL _) (BQ s.heap I.big);refine wpAny_Dict_walk (knd:=aJ X.prog X.w) hall hl h0 h15 (oF (h pins _ σ _ _ I1 (q _ hn)) λws s2 z9=>?_);obtain⟨ps,H2,I2,rel,e,kvs,ep,lk,q2⟩:=z9;subst ep;obtain⟨rs,c,rk⟩:=ny (P:=X.prog) (w:=X.w) rel;obtain⟨z,hd,vs0,r0,dd⟩:=tu I2.bb e;cases r0;refine⟨rs,c,dd,λh' dd' hs=>⟨.ref s.heap.objs.size,_,?_,rfl,q2⟩⟩;have hz:(cq [] kvs).length<=UK:=by
  have h1:=dE kvs [];rw[V8] at h1;rw[sizeLine_eq];omega
 have he: ∃ q,h'.get? s.heap.objs.size=fv q:=by obtain⟨q,_,_,hq,_⟩:=dd';exact⟨q,hq⟩
 exact sf I2 (by rw[e];exact WI) hs he (rQ hz hd (rk.merge .nil) dd')
structure M1(X:Cx)(o:Vu)(m:Str)(apos:Pos)(e:Vu)(cpos:Pos):Prop where
 base:Xj o m X.env (Wt o X.env)=Wt o X.env
 kC:((Yh cpos (Vk [e] X.env)).all (λx=> !x.1)&&(backToKw cpos (abD [] X.env)).all (λx=>x.1.isSome)
  && decide (([e]:List Vu).length+([]:List aaB).length+(if ([]:List aaB).isEmpty then 0 else 1) < 30))=true
 line:(apos.endLine == cpos.line)=true
 trees:Yh cpos (Vk [e] X.env)=[(false,Wt e X.env)]
structure M2(X:Cx)(o:Vu)(m:Str)(apos:Pos)(e f:Vu)(cpos:Pos):Prop where
 base:Xj o m X.env (Wt o X.env)=Wt o X.env
 kC:((Yh cpos (Vk [e,f] X.env)).all (λx=> !x.1)&&(backToKw cpos (abD [] X.env)).all (λx=>x.1.isSome)
  && decide (([e,f]:List Vu).length+([]:List aaB).length+(if ([]:List aaB).isEmpty then 0 else 1) < 30))=true
 line:(apos.endLine == cpos.line)=true
 trees:Yh cpos (Vk [e,f] X.env)=[(false,Wt e X.env),(false,Wt f X.env)]
def TM H a:=(∃ kvs,Rd H a (.dK kvs))\/ ∃ kvs,Rd H a (.dT kvs)
theorem Ih{σ :St}(I:Inv X pins σ H s)(d:TM H a) :
  s.TypeIs (.ref a) "dict" /\(∀ b,U6 a= .ref b-> ∃ ob,s.heap.get? b=fv ob/\ob.dict=UB)/\(a == VP)=false:=by
 rcases d with⟨kvs,e⟩ | ⟨kvs,e⟩
 . obtain⟨_,hd,vs,_,dd⟩:=lB I.bb e;refine⟨dd.typeIs,λb q=>?_,hd⟩;cases q;obtain⟨ob,_,_,h1,h2,_⟩:=dd;exact⟨ob,h1,h2.2.1⟩
 . obtain⟨_,hd,xs,_,dd⟩:=oE I.bb e;refine⟨dd.typeIs,λb q=>?_,hd⟩;cases q;obtain⟨ob,_,_,h1,h2,_⟩:=dd;exact⟨ob,h1,h2.2.1⟩
section
variable{X:Cx}{pins:List (U0 × Obj)}{σ :St}{H:Hp}{s:UM}{a:U0}{y d:V}{u r:UH}{o:Option V}{A:Wf}{E:UH->UM->Prop}
theorem IZ(hu:A.units+1 < XD)(I:Inv X pins σ H s)(g:i8 H a y o)(ry:RelV y u)(rd:RelV d r)(h: ∀ w' s',Inv X pins σ H s'->RelV (o.getD d) w'->Q w' s') :
  U2 (U8 X.prog X.w) A (call (.builtin "dict.get") [.ref a,u,r]) Q E s:=by
 rcases g with⟨kvs,k,e,ey,l⟩ | ⟨kvs,k,b,e,ey,eb,l⟩
 . subst ey;obtain⟨z,hd,vs,rel,dd⟩:=lB I.bb e;refine call_meetsIn Ye dd.typeIs ZU (Zy _ _ _) (meets_dict_get_default (aJ X.prog X.w) a (jN ry) hd r) ⟨_,dd.mapOf,h _ _ (I.tok _) ?_⟩;rw[l];exact(rel.val k).getD rd
 . subst ey;cases(show u=U6 b from ry);obtain⟨z,hd,xs,rel,dd⟩:=oE I.bb e;refine call_meetsIn Ye dd.typeIs ZU (Zy _ _ _) (meetsH_dict_get_default (Zu (aJ X.prog X.w)) a b hd r) ⟨Xb hu,k,xs,kF I.bb eb,dd,h _ _ (I.tok _) ?_⟩;rw[l];exact(rel.val k).getD rd
end
noncomputable def Co(td ty tx:TE):TE:=fun σ H Q=>td σ H λx H1=> ∃ a,x= .ref a/\TM H1 a/\ty σ H1 λy H2=>tx σ H2 λz H3=> ∃ o,i8 H3 a y o/\Q (o.getD z) H3
section
variable{X:Cx}{o e f:Vu}{apos cpos:Pos}{td ty tx:TE}
theorem Bg(hu:X.A.units+1 < XD)(ho:PE X o td)(he:PE X e ty)(hf:PE X f tx)(m:M2 X o "get" apos e f cpos):PE X (.Call (.Attribute o "get" apos) [e,f] [] cpos) (Co td ty tx):=by
 intro pins s σ H Q I h;refine wpAny_Call_method m.base m.kC m.line PySem.F.plainAttrs_dict Ye PySem.F.type_dict_get (gZ (ho pins s σ H _ I h) λu s1 x H1 I1 rx ⟨a,ex,d,q1⟩=>?_);subst ex;obtain rfl:u=U6 a:=rx;obtain⟨t1,t2,_⟩:=Ih I1 d;refine⟨t1,t2,?_⟩;rw[m.trees];refine ZR rfl (aak (XW (gZ (he pins s1 σ H1 _ I1 q1) λiv s2 y H2 I2 ry q2 =>
  XW (gZ (hf pins s2 σ H2 _ I2 q2) λfv s3 z H3 I3 rz ⟨ov,g,q3⟩=>Za ?_))))
 exact IZ hu I3 g ry rz λw' s4 I4 rw'=>⟨_,H3,I4,rw',q3⟩
end
section
variable{X:Cx}
theorem zd:aM X (.builtin "len") (λxs H Q=> ∃ a kvs,xs=[V.ref a]/\H a=fv (.dK kvs)/\Q (.int kvs.length) H):=by
 intro pins s σ H xs us Q I r h;obtain⟨a,kvs,rfl,ha,q⟩:=h;obtain⟨u,rfl,ru⟩:=vals1 r;cases ru;exact Ol I (.inl ha) λt s' I'=>⟨.int kvs.length,H,I',⟨t,rfl⟩,q⟩
end
noncomputable def mask(n:Str):Str:=⟨n.cps.push 0⟩
def gX(sc fn:List (Str × Yn))(N vars:List Str) :=
 sc.all (λp=>(p.2 != .cell||sc.lookup p.1 == fv .cell)&&(p.2 != .free||(fn.lookup p.1 == fv .cell||fn.lookup p.1 == fv .free))&&(p.2 != .local||sc.lookup p.1 == fv .local)) &&
 N.all (λn=>vars.contains n||(sc.lookup n !=fv .local&&sc.lookup n !=fv .cell))&&vars.all (λv=>sc.lookup (mask v) == UB)
def oO(N vars:List Str):=N.map (λn=>if vars.contains n then mask n else n)++vars
def d7(X:Cx)(vars:List Str)(scope:Y7)(cl:List (Str × U0))(C:U0)(s₀ :UM)(H₀ :Hp)(ex:List U0)(pn:List (U0 × Obj)):Cx :=
 { X with N:=oO X.N vars,env:=WC scope cl C X.env,s₀ :=s₀,H₀ :=H₀,outer:=X.stack,ex:=ex,fn:=λx=>scope.names.lookup x == fv .cell,pn:=pn}
theorem jg(f:Str->Yn->Yn) x: ∀ names:List (Str × Yn),(names.map λp=>(p.1,f p.1 p.2)).lookup x=(names.lookup x).map (f x)
 | []=>rfl
 | p::r=>by
  have ih:=jg f x r;rw[UP,WH,WH,ih];cases q:x == p.1 with
  | true=>simp_all
  | false=>rfl
theorem hW{env:Env}{names:List (Str × Yn)} :
  (names.map λ(n,k)=>if (k == WW&&env.scope.kind == .function&&env.kindOf n == fv .cell) then(n,WX) else(n,k)).lookup x =
   (names.lookup x).map λk=>if (k == WW&&env.scope.kind == .function&&env.kindOf x == fv .cell) then WX else k:=by
 rw[<- jg (λn k=>if (k == WW&&env.scope.kind == .function&&env.kindOf n == fv .cell) then WX else k) x names];congr 2
 funext p
 show(if _ then _ else _)=_;split<;>rename_i z<;>simp[z]
theorem lookup_mem{β :Type}{c}: ∀{l:List (Str × β)},l.lookup x=fv c->(x,c)∈l
 | [],h=>by simp at h
 | p::r,h=>by
  rw[WH] at h;cases q:x == p.1 with
  | true =>
   rw[q] at h
   obtain rfl:x=p.1:=by simpa using q
   obtain rfl:p.2=c:=by simpa using h
   exact UX
  | false=>rw[q] at h;exact UZ _ (lookup_mem h)
theorem fe{β :Type}{c}: ∀{l:List (Str × β)},(x,c)∈l-> ∃ d,l.lookup x=fv d
 | [],h=>by cases h
 | (n,k)::r,h=>by
  cases hx:x == n with
  | true=>exact⟨k,by simp only[WH,hx]⟩
  | false =>
   have h':(x,c)∈r:=by
    simp_all
   obtain⟨d,q⟩:=fe h'
   exact⟨d,by simp only[WH,hx];exact q⟩
theorem jt: ∀(names:List (Str × Yn)) acc,(∀ p∈names,p.2= .free-> ∃ c,env.cells.lookup p.1=fv c) ->
  ∃ cl,(forIn names acc λ(x:Str × Yn) (r)=>(match x with | (name,kind)=>if (kind == WW)=true then do let a <- cellOf env name;pure (Xd ((name,a)::r)) else pure (Xd r)))=pure cl /\
   (∀ p∈cl,p∈acc\/env.cells.lookup p.1=fv p.2)/\(∀ p∈acc,p∈cl)/\ ∀ p∈names,p.2= .free-> ∃ c,(p.1,c)∈cl
 | [],acc,_=>⟨acc,rfl,λp h=> .inl h,λp h=>h,λp h=>by cases h⟩
 | (n,k)::r,acc,h=>by
  by_cases hk:(k == WW)=true
  . obtain⟨c,hc⟩:=h (n,k) UX (by simpa using hk);obtain⟨cl,e,h1,h2,h3⟩:=jt r ((n,c)::acc) λp hp=>h p (UZ _ hp);refine⟨cl,?_,λp hp=>?_,λp hp=>h2 p (UZ _ hp),λp hp hf=>?_⟩
    . rw[Xe];have z:cellOf env n=pure c:=by unfold cellOf;have hc':=hc;rw[hc']
      simp only[hk,z];exact e
    . rcases h1 p hp with q | q
      . rcases UW.mp q with q | q
        . exact .inr (by rw[q];exact hc)
        . exact .inl q
      . exact .inr q
    . rcases UW.mp hp with q | q
      . exact⟨c,by rw[q];exact h2 _ UX⟩
      . exact h3 p q hf
  . obtain⟨cl,e,h1,h2,h3⟩:=jt r acc λp hp=>h p (UZ _ hp);refine⟨cl,?_,h1,h2,λp hp hf=>?_⟩
    . rw[Xe];simp only[if_neg hk];exact e
    . rcases UW.mp hp with q | q
      . rw[q] at hf;exact absurd (by simpa using hf) hk
      . exact h3 p q hf
theorem nh(h: ∀ p∈scope.names,p.2= .free-> ∃ c,env.cells.lookup p.1=fv c) :
  ∃ cl,closureFor scope env=pure cl/\(∀ x c,cl.lookup x=fv c->env.cells.lookup x=fv c)/\ ∀ x,scope.names.lookup x=fv .free-> ∃ c,cl.lookup x=fv c:=by
 obtain⟨cl,e,h1,_,h3⟩:=jt scope.names [] h;refine⟨cl,?_,λx c q=>?_,λx q=>?_⟩
 . show(forIn scope.names ([]) _ >>= λr=>pure r)=_
   erw [e]
   rfl
 . rcases h1 _ (lookup_mem q) with z | z
   . cases z
   . exact z
 . obtain⟨c,q'⟩:=h3 _ (lookup_mem q) rfl;exact fe q'
theorem vC: ∀ names(h:VO) acc x c,(Xi h.objs.size names acc).lookup x=fv c ->
  ((x,WX) ∉ names/\acc.lookup x=fv c)\/((x,WX)∈names/\h.objs.size<=c/\(Zz h names).IsCell c UB)
 | [],_,_,_,_,e=> .inl ⟨λz=>(by cases z),e⟩
 | (name,kind)::r,h,acc,x,c,e=>by
  unfold Xi at e;unfold Zz;split at e
  . rename_i hk;have hk':kind= .cell:=by simpa using hk
    subst hk';have hz:(h.push { cls:= .type "cell",data:= .cell UB}).objs.size=h.objs.size+1:=Vy ..;rw[<- hz] at e;rcases vC r _ _ x c e with⟨n,q⟩ | ⟨m,le,q⟩
    . rw[WH] at q;cases hx:x == name with
      | true =>
       rw[hx] at q
       cases q
       rw[show x=name by simpa using hx]
       exact .inr ⟨UX,UL _,_,Z5 _ _ _ _ (UY _ rfl),rfl⟩
      | false =>
       simp_all
    . exact .inr ⟨UZ _ m,by rw[hz] at le;exact Nat.le_of_succ_le le,q⟩
  . rename_i hk;rw[if_neg hk];rcases vC r h acc x c e with⟨n,q⟩ | ⟨m,q⟩
    . refine .inl ⟨λz=>?_,q⟩;rcases UW.mp z with w | w
      . simp_all
      . exact n w
    . exact .inr ⟨UZ _ m,q⟩
theorem vx{lo:Nat}: ∀ names(n:Nat)(acc:List (Str × U0)),(∀ x y c,acc.lookup x=fv c->acc.lookup y=fv c->lo<=c->x=y)->(∀ x c,acc.lookup x=fv c->c < n) ->
  ∀ x y c,(Xi n names acc).lookup x=fv c->(Xi n names acc).lookup y=fv c->lo<=c->x=y
 | [],_,_,h,_=>h
 | (name,kind)::r,n,acc,h,hn=>by
  unfold Xi;split
  . have at_: ∀ z d,((name,n)::acc).lookup z=fv d->(z=name/\d=n)\/acc.lookup z=fv d:=λz d e=>by
     rw[WH] at e;cases hz:z == name with
     | true=>simp_all
     | false=>rw[hz] at e;exact .inr e
    refine vx r (n+1) _ (λx y c e1 e2 hl=>?_) λx c e=>?_
    . rcases at_ x c e1 with⟨a,b⟩ | a<;>rcases at_ y c e2 with⟨a',b'⟩ | a'
      . rw[a,a']
      . exact absurd (hn y c a') (by rw[b];exact Vr _)
      . exact absurd (hn x c a) (by rw[b'];exact Vr _)
      . exact h x y c a a' hl
    . rcases at_ x c e with⟨_,b⟩ | a
      . simp_all
      . exact WQ (hn x c a)
  . exact vx r n acc h hn
theorem pM{M:Model}{A:Wf}{E:UH->UM->Prop}{s:UM}{scope:Y7}{globals:U0}{cl:List (Str × U0)}{qual:Str}{outer:Env}{Q:Env->UM->Prop}
  (h:Q { scope:=scope,locals:=s.heap.objs.size,globals:=globals,cells:=Xi (s.heap.objs.size+1) scope.names cl,qual:=qual,func:=UB,code:=outer.code,frame:=outer.frame,builtins:=outer.builtins}
   { s with heap:=Zz (s.heap.push { cls:= .type "dict",data:= .dict #[]}) scope.names}):U2 M A (aam scope globals cl [] qual UB .none (fv outer)) Q E s:=by
 simp only[aam,aaY,if_true];refine UA (wpAny_alloc (UA (wpAny_layCells _ (λname kind cells=>by rfl) _ _ _ _ ?_)));rw[show({ s with heap:=s.heap.push { cls:= .type "dict",data:= .dict #[]}}:UM).heap.objs.size=s.heap.objs.size+1 from Vy ..];exact UA (by exact UO (UO h))
noncomputable def GO(cs:List Vu) v :=
 forIn cs true λc r=>if r=true then(abl c v (Wt c v) >>= λok=>pure (Xd ok)) else pure (Xd r)
def vm M A v e acc (X:UH->UM->Prop) (D:UM->Prop):=λok u=>if ok=true then
  U2 M A (Wt e v) (λx u1=>U2 M A (call (.builtin "list.append") [acc,x]) (λ_ u2=>D u2) X u1) X u
 else D u
def ID(M:Model)(A:Wf) v tg e (cs:List Vu) (it acc:UH) (X:UH->UM->Prop) (D:UM->Prop) (i:UH) (u:UM) :=
 U2 M A (Z1 tg it i) (λ_ u1=>U2 M A (Yu tg v i) (λ_ u2=>U2 M A (GO cs v) (vm M A v e acc X D) X u2) X u1) X u
theorem oh{prog:Vl}{w:VE}{A:Wf}{R:Result->UM->Prop}{s:UM}{elt target iter:Vu}{ifs:List Vu}{scope:Y7}{pos:Pos}{it acc:UH}{env:Env}(I:Nat->UM->Prop)
  (turn: ∀ k u,I k u->U2 (U8 prog w) A (abm it) (λr u1=>match r with
   | none=>R (.ok .next) u1
   | some i=>ID (U8 prog w) A env target elt ifs it acc (notedBy (U8 prog w) A env λe s'=>R (.error e) s') (λu2=> ∃ m,m < k/\I m u2) i u1) (notedBy (U8 prog w) A env λe s'=>R (.error e) s') u)
  (n:Nat) (h:I n s):ZM (U8 prog w) A (.compLoop (.ListComp elt [⟨target,iter,ifs,0⟩] scope pos) 0 it acc env) R s:=by
 refine codeAny_loop rfl I (λk u hu=>wpAny_noted (m:=compTurn (.ListComp elt [⟨target,iter,ifs,0⟩] scope pos) 0 it acc env) ?_) n h;rw[compTurn_list];refine UA (aaN (UA (Vo (turn k u hu) (λr u1 g=>?_) λ_ _ z=>z)))
 match r,g with
 | none,g=>exact UO g
 | some i,g =>
  refine UA (Vo g (λ_ _ g=>UA (Vo g (λ_ _ g=>UA (Vo g (λok u4 g=>?_) λ_ _ z=>z)) λ_ _ z=>z)) λ_ _ z=>z)
  match ok,g with
  | false,g=>exact UO (ZA rfl g)
  | true,g=>exact UA (UA (Vo g (λ_ _ g=>UA (Vo g (λ_ _ g=>UO (UO (ZA rfl g))) λ_ _ z=>z)) λ_ _ z=>z))
def PF X (ifs:List Vu) (t:TT) :=
 ∀ pins s(σ :St) H Q,Inv X pins σ H s->t σ H Q ->
  U2 (U8 X.prog X.w) X.A (forIn ifs true λc r=>if r=true then do let ok <- abl c X.env (Wt c X.env);pure (Xd ok) else pure (Xd r)) (TP X pins σ Q) X.xe s
noncomputable def GW:TT:=λ_ H Q=>Q true H
theorem J6:PF X [] GW:=λ_ _ σ H Q I h=>wpAny_tests_nil ⟨H,I,h⟩
theorem Li(h:PT X c t):PF X [c] t:=λpins s σ H Q I q=>wpAny_tests_one (h pins s σ H Q I q)
def Q2(k:Nat)(wi:TI)(g:TG)(tt:TT)(te:TE):TE:=fun σ H Q=>wi σ H λJ H1=> ∃ W:Nat->Nat->List V->Hp->Prop,(∃ m,W 0 m [] H1)/\ ∀ i m ys H,W i m ys H ->
 (J.stop i H/\ ∀ p,H p=UB->Q (.ref p) (upd H p (.lst ys))) \/
 (J.go i H/\ys.length < UK/\ ∀ x H',J.Hl i H x H'->g x (σ ++UN k UB) H' fun σ2 H2=>tt σ2 H2 λb H3 =>
  if b=true then te σ2 H3 λy H4=> ∃ m',m' < m/\W (i+1) m' (ys++[y]) H4 else ∃ m',m' < m/\W (i+1) m' ys H3)
section
variable{X:Cx}{pins:List (U0 × Obj)}{σ :St}{H:Hp}{s:UM}{scope:Y7}{vars:List Str}{cl:List (Str × U0)}
theorem iU(h:gX scope.names X.env.scope.names X.N vars=true): ∀ p∈scope.names,(p.2= .cell->scope.names.lookup p.1=fv .cell)/\(p.2= .free->X.env.kindOf p.1=fv .cell\/X.env.kindOf p.1=fv .free)/\(p.2= .local->scope.names.lookup p.1=fv .local):=by
 intro p hp;unfold gX at h;simp only[U3,Xs] at h;obtain⟨⟨h1,_⟩,_⟩:=h;have q:=h1 p hp;simp only[Yx,bne_iff_ne,beq_iff_eq] at q;obtain⟨⟨q1,q2⟩,q3⟩:=q;refine⟨λe=>?_,λe=>?_,λe=>?_⟩
 . rcases q1 with z | z
   . exact absurd e z
   . exact z
 . rcases q2 with z | z
   . exact absurd e z
   . exact z
 . rcases q3 with z | z
   . exact absurd e z
   . exact z
theorem IJ(h:gX scope.names X.env.scope.names X.N vars=true): ∀ n∈X.N,¬ n∈vars->scope.names.lookup n≠fv .local/\scope.names.lookup n≠fv .cell:=by
 intro n hn hv;unfold gX at h;simp only[U3,Xs] at h;obtain⟨⟨_,h2⟩,_⟩:=h;have q:=h2 n hn;simp only[Yx,U3,bne_iff_ne,List.contains_iff_mem] at q;exact q.resolve_left hv
theorem yE(h:gX scope.names X.env.scope.names X.N vars=true): ∀ n∈vars,scope.names.lookup (mask n)=UB:=by
 intro n hn;unfold gX at h;simp only[U3,Xs] at h;simpa using h.2 n hn
theorem Inv.d7{C:U0}(I:Inv X pins σ H s)(hkind:scope.kind= .function)(hlc:gX scope.names X.env.scope.names X.N vars=true)
  (hc1: ∀ x c,cl.lookup x=fv c->(scope.names.lookup x≠fv .cell/\X.env.cells.lookup x=fv c)\/(scope.names.lookup x=fv .cell/\s.heap.objs.size<=c/\h'.IsCell c UB)) (hc2: ∀ x,scope.names.lookup x=fv .free\/scope.names.lookup x=fv .cell-> ∃ c,cl.lookup x=fv c)
  (hci: ∀ x y c,cl.lookup x=fv c->cl.lookup y=fv c->s.heap.objs.size<=c->x=y)
  (hfp: ∀ b∈fp,lZ X pins H b) (hfo: ∀ b∈fp,∃ o,s.heap.get? b=fv o) (hC:s.heap.objs.size<=C) (hn:h'.Ns C m') (k: ∀ b o,s.heap.get? b=fv o->h'.get? b=fv o) :
  Inv (d7 X vars scope cl C s H fp (X.pn++pins)) [] (σ ++UN vars.length UB) H { s with heap:=h',toks:=t'}:=by
 have hHC:=I.bb.fresh hC;have lt: ∀ x c,X.env.cells.lookup x=fv c->c < s.heap.objs.size:=λx c e=>by obtain⟨v,q⟩:=I.cell x c e;exact q.lt
 refine⟨?ok,rfl,I.bare,Un.kept k,⟨m',hn,?loc⟩,λx c e=>?cell,hHC,λx c e=>(hc1 x c e).elim (λz=>I.iy x c z.2) (λz=>I.bb.fresh z.2.1),?pin,I.bb.kept k,?len⟩
 case ok =>
  refine{ mod:=I.ok.mod,kind:=?_,glob:=I.ok.glob,blt:=I.ok.blt,above:=hC,inj:=?_,has:=?_,M4:=?_,hd:=I.ok.hd,frames:=I.ok.frames,OI:= .inl rfl,R5:=?_,bs:=I.bs,Dk:=Va I.ok.Dk I.sz,yI:=?_,BY:=?_,kA:=I.stack,Hi:=I.xS}
  . exact hkind
  . intro x y c e1 e2;rcases hc1 x c e1 with z | z
    . rcases hc1 y c e2 with w | w
      . exact I.ok.inj x y c z.2 w.2
      . exact absurd (US (lt x c z.2) w.2.1) (Vr _)
    . exact hci x y c e1 e2 z.2.1
  . intro x hx;have hx':(WC scope cl C X.env).kindOf x=fv .cell\/(WC scope cl C X.env).kindOf x=fv .free:=hx;have e:(WC scope cl C X.env).kindOf x=(scope.names.lookup x).map λk=>if (k == WW&&X.env.scope.kind == .function&&X.env.kindOf x == fv .cell) then WX else k:=hW
    rw[e] at hx';cases q:scope.names.lookup x with
    | none=>rw[q] at hx';simp at hx'
    | some kd =>
     by_cases hf:kd= .free
     . subst hf;exact hc2 x (.inl q)
     . rw[q] at hx';have hf':(kd == WW)=false:=by simpa using hf
       simp only[XS,hf',Bool.false_and,Xc,if_false,X8] at hx';rcases hx' with z | z
       . exact hc2 x (.inr (by rw[q,z]))
       . exact absurd z hf
  . intro x c hx e;have hx':(scope.names.lookup x == fv WX)=true:=hx;rcases hc1 x c e with z | z
    . exact absurd (by simpa using hx') z.1
    . exact z.2.1
  . intro b hb;have f:=hfp b hb;obtain⟨o,e⟩:=hfo b hb;exact⟨U7 (US (UT e) hC),λx c e z=>(hc1 x c e).elim (λw=>f.2.2.2.2.1 x c w.2 z) (λw=>absurd (US (UT (z ▸ ‹_› :s.heap.get? c=fv o)) w.2.1) (Vr _))⟩
  . intro b o e hb;have f:=hfp b hb;rcases f.2.2.2.1 with z | z
    . exact I.ok.yI b o e z
    . exact absurd (US (UT (I.ok.bs b o e).1) z) (Vr _)
  . intro b hb z;have f:=hfp b hb;rcases UW.mp (I.k9 b z) with q | q
    . exact f.2.1 q
    . exact f.2.2.1 q
 case loc =>
  intro i x v e1 e2 e3
  have e1':(oO X.N vars)[i]?=fv x:=e1
  have e:(WC scope cl C X.env).scope.names.lookup x=(scope.names.lookup x).map λk=>if (k == WW&&X.env.scope.kind == .function&&X.env.kindOf x == fv .cell) then WX else k:=hW
  by_cases hi:i < σ.length
  . rw[Vj hi] at e2;unfold oO at e1';rw[Vj (by rw[UE,<- I.len];exact hi),U1] at e1';cases q:X.N[i]? with
    | none=>rw[q] at e1';cases e1'
    | some n =>
     rw[q] at e1'
     have e1'':(if vars.contains n=true then mask n else n)=x:=Vx e1'
     have vis:(scope.names.lookup x).isSome=true:=by
      unfold MV at e3;have e3':(WC scope cl C X.env).scope.names.lookup x=fv .local\/(WC scope cl C X.env).scope.names.lookup x=fv .cell\/(WC scope cl C X.env).scope.names.lookup x=fv .free:=e3;rw[e] at e3';cases z:scope.names.lookup x with
      | none=>rw[z] at e3';simp at e3'
      | some _=>rfl
     by_cases hv:n∈vars
     . rw[if_pos (by simpa using hv)] at e1'';have:=yE (X:=X) hlc n hv;rw[e1''] at this;rw[this] at vis;cases vis
     . rw[if_neg (by simpa using hv)] at e1'';subst e1'';have nl:=IJ (X:=X) hlc n (UR q) hv;cases z:scope.names.lookup n with
       | none=>rw[z] at vis;cases vis
       | some kd =>
        have hm:=iU (X:=X) hlc _ (lookup_mem z)
        have hkd:kd= .free:=by
         unfold MV at e3;have e3':(WC scope cl C X.env).scope.names.lookup n=fv .local\/(WC scope cl C X.env).scope.names.lookup n=fv .cell\/(WC scope cl C X.env).scope.names.lookup n=fv .free:=e3;rw[e,z] at e3';by_cases hf:kd= .free
         . exact hf
         . simp_all
        subst hkd
        have kk:=hm.2.1 rfl
        obtain⟨m,_,hl⟩:=I.loc
        obtain⟨u,r,look⟩:=hl i n v q e2 (.inr kk)
        obtain⟨c,hcl⟩:=hc2 n (.inl z)
        have hco:=(hc1 n c hcl).elim (·.2) (λw=>by rw[z] at w;cases w.1)
        have look': ∃ c,X.env.cells.lookup n=fv c/\s.heap.IsCell c (fv u):=by
         rcases look with⟨y,_⟩ | ⟨_,y⟩
         . rcases kk with w | w<;>(rw[w] at y;cases y)
         . exact y
        obtain⟨c',hc',⟨o,ho,hd⟩⟩:=look'
        have ec:=Vx (hco.symm.trans hc')
        subst ec
        refine⟨u,r,.inr ⟨?_,c,hcl,o,k c o ho,hd⟩⟩
        show(WC scope cl C X.env).scope.names.lookup n=fv .cell\/(WC scope cl C X.env).scope.names.lookup n=fv .free
        rw[e,z]
        simp only[XS]
        split
        . exact .inl rfl
        . exact .inr rfl
  . rw[Vd (aaZ.mp hi),W8] at e2;split at e2<;>cases e2
 case cell =>
  rcases hc1 x c e with z | z
  . obtain⟨v,o,ho,hd⟩:=I.cell x c z.2;exact⟨v,o,k c o ho,hd⟩
  . exact⟨UB,z.2.2⟩
 case pin =>
  intro p hp
  have hp':p∈X.pn++pins:=by simpa [L2.d7] using hp
  obtain⟨e,n,ne,nf,d⟩:=I.pin p hp'
  refine⟨k _ _ e,n,U7 (US (UT e) hC),λz=>?_,d⟩
  rcases UW.mp (I.k9 p.1 z) with q | q
  . exact ne q
  . exact nf q
 case len =>
  show(σ ++UN vars.length UB).length=(oO X.N vars).length
  unfold oO
  rw[U5,U5,UE,aaa,I.len]
end
def GK(n:Nat)(g:TG):= ∀ x σ H Q,g x σ H Q->g x σ H fun σ2 H2=>Q σ2 H2/\ ∀ j,j < n-> σ2[j]?= σ[j]?
def Ot(n:Nat)(g:Dl):= ∀ xs σ H Q,g xs σ H Q->g xs σ H fun σ2 H2=>Q σ2 H2/\ ∀ j,j < n-> σ2[j]?= σ[j]?
def rq(g:TG):= ∀ x σ H Q Q',(∀ σ2 H2,Q σ2 H2->Q' σ2 H2)->g x σ H Q->g x σ H Q'
theorem GQ(h:n<=i):GK n (eF i):=λx σ H Q q=>⟨q,λj hj=>Ww (by omega)⟩
theorem vw:rq (eF i):=λx σ H Q Q' f q=>f _ _ q
theorem LG:Ot n ze:=λxs σ H Q q=>⟨q.1,q.2,λ_ _=>rfl⟩
theorem Gg(h:GK n g)(hm:rq g)(hs:Ot n gs):Ot n (lD g gs):=λxs σ H Q q=>by
 obtain⟨v,r,e,z⟩:=q;refine⟨v,r,e,hm _ _ _ _ _ (fun σ2 H2 y=>?_) (h _ _ _ _ z)⟩;have y':=hs _ _ _ _ y.1;have:(fun σ3 H3=>(Q σ3 H3/\ ∀ j,j < n-> σ3[j]?= σ2[j]?))=fun σ3 H3=>(Q σ3 H3/\ ∀ j,j < n-> σ3[j]?= σ[j]?):=by
  simp_all
 rw[this] at y';exact y'
theorem LB{K}(hs:Ot n gs):GK n (v9 K m gs):=λx σ H Q q=>by
 obtain⟨a,xs,e,h1,h2,h3⟩:=q;exact⟨a,xs,e,h1,h2,hs _ _ _ _ h3⟩
section
variable{X:Cx}{scope:Y7}{vars:List Str}{elt tg iter:Vu}{ifs:List Vu}{pos:Pos}{wi:TI}{g:TG}{tt:TT}{te:TE}
theorem nR{pins:List (U0 × Obj)}{σ :St}{H2:Hp}{s2:UM}{cl:List (Str × U0)}{it:U0}{fp:List U0}{tn:Nat->VO->Prop}{J:It}{RR:UH->U0->Result->UM->Prop}{Q:VK}{E:UH->UM->Prop}
  (hc:X.calm=true) (hx: ∀ v s,¬ X.xe v s) (hkind:scope.kind= .function) (hlc:gX scope.names X.env.scope.names X.N vars=true)
  (hb: ∀ cl C s₀ H₀ ex pn,PG (d7 X vars scope cl C s₀ H₀ ex pn) tg g/\PF (d7 X vars scope cl C s₀ H₀ ex pn) ifs tt/\PE (d7 X vars scope cl C s₀ H₀ ex pn) elt te) (hgk:GK X.N.length g)
  (hc1: ∀ x c,cl.lookup x=fv c->X.env.cells.lookup x=fv c) (hc2: ∀ x,scope.names.lookup x=fv .free-> ∃ c,cl.lookup x=fv c)
  (I2:Inv X pins σ H2 s2) (T:Turn X.prog X.w X.K tg J fp it tn) (st2:tn 0 s2.heap) (f2: ∀ b∈fp,lZ X pins H2 b)
  {W:Nat->Nat->List V->Hp->Prop} {m0:Nat} (w0:W 0 m0 [] H2)
  (turn: ∀ i m ys H,W i m ys H->(J.stop i H/\ ∀ p,H p=UB->Q (.ref p) (upd H p (.lst ys))) \/
   (J.go i H/\ys.length < UK/\ ∀ x H',J.Hl i H x H'->g x (σ ++UN vars.length UB) H' fun σ2 H2=>tt σ2 H2 λb H3 =>
    if b=true then te σ2 H3 λy H4=> ∃ m',m' < m/\W (i+1) m' (ys++[y]) H4 else ∃ m',m' < m/\W (i+1) m' ys H3))
  (hRR: ∀ D C s4 H4 ys m,Inv X pins σ (upd H4 D (.lst ys)) s4->s4.heap.Ns C m->H4 D=UB->(upd H4 D (.lst ys)) C=UB->C≠X.env.locals->X.s₀.heap.objs.size<=C->(∀ x c,X.env.cells.lookup x=fv c->c≠C)->(∀ p∈X.pn++pins,p.1≠C) ->
   Q (.ref D) (upd H4 D (.lst ys))->RR (.ref D) C (.ok .next) s4) :
  U2 (U8 X.prog X.w) X.A (newList []) (λacc s₃ =>U2 (U8 X.prog X.w) X.A (aam scope X.env.globals cl [] X.env.qual UB .none (fv X.env)) (λcenv s₄ =>
   ZM (U8 X.prog X.w) X.A (.compStart (.ListComp elt [⟨tg,iter,ifs,0⟩] scope pos) 0 (.ref it) acc { cenv with scope:=relabel scope X.env}) (RR acc cenv.locals) s₄) E s₃) E s2:=by
 refine V0 (pM ?_);dsimp only;generalize hH2:s2.heap.push { cls:= .type "list",dict:=UB,data:= .seq ([]).toArray}=P2;have hC:P2.objs.size=s2.heap.objs.size+1:=by rw[<- hH2,Vy]
 have hDC:s2.heap.objs.size≠P2.objs.size:=by rw[hC];exact U7 (Zw _)
 have hCle:s2.heap.objs.size<=P2.objs.size:=by rw[hC];exact aan _
 have hz:(P2.push { cls:= .type "dict",data:= .dict #[]}).objs.size=P2.objs.size+1:=Vy ..;have cn:=vC scope.names (P2.push { cls:= .type "dict",data:= .dict #[]}) cl;rw[hz] at cn;have ci:=vx scope.names (P2.objs.size+1) cl (λx y c e1 _ hl=>absurd (US (I2.cell x c (hc1 x c e1)).choose_spec.lt hl) (Vr _)) (λx c e=>US (I2.cell x c (hc1 x c e)).choose_spec.lt (WR hCle));have cs: ∀ x,scope.names.lookup x=fv .free\/scope.names.lookup x=fv .cell-> ∃ c,(Xi (P2.objs.size+1) scope.names cl).lookup x=fv c:=λx h=>XG.mp (X6 _ _ _ (h.elim (λz=> .inr (XG.mpr (hc2 x z))) .inl));have hns₁ :(Zz (P2.push { cls:= .type "dict",data:= .dict #[]}) scope.names).Ns P2.objs.size (λ_=>UB):=(Heap.Ns.new P2 (.type "dict")).keeps (Z5 _ _);have kp: ∀ b o,P2.get? b=fv o->(Zz (P2.push { cls:= .type "dict",data:= .dict #[]}) scope.names).get? b=fv o:=λb o e=>Z5 _ _ b o (UD _ e);generalize hh₁ :Zz (P2.push { cls:= .type "dict",data:= .dict #[]}) scope.names=h₁ at *;generalize hcl':Xi (P2.objs.size+1) scope.names cl=cl' at *;have c1: ∀ x c,cl'.lookup x=fv c->(scope.names.lookup x≠fv .cell/\X.env.cells.lookup x=fv c)\/(scope.names.lookup x=fv .cell/\P2.objs.size+1<=c/\h₁.IsCell c UB):=λx c e=>by
  rcases cn x c e with⟨n,q⟩ | ⟨m,q⟩
  . exact .inl ⟨λz=>n (lookup_mem z),hc1 x c q⟩
  . exact .inr ⟨(iU (X:=X) hlc _ m).1 rfl,q⟩
 have old:=λb o e=>kp b o (hH2 ▸ UD _ e);have hacc:=kp _ _ (hH2 ▸ UY _ rfl);have c1': ∀ x c,cl'.lookup x=fv c->(scope.names.lookup x≠fv .cell/\X.env.cells.lookup x=fv c)\/(scope.names.lookup x=fv .cell/\s2.heap.objs.size<=c/\h₁.IsCell c UB):=λx c e=>(c1 x c e).imp id λz=>⟨z.1,Va (WR hCle) z.2.1,z.2.2⟩
 generalize hDe:s2.heap.objs.size=D at *;generalize hCe:P2.objs.size=C at *;have fo: ∀ b∈fp,∃ o,s2.heap.get? b=fv o:=λb hb=>by obtain⟨o,e,_⟩:=T.obj _ _ st2 b hb;exact⟨o,e⟩
 have fpD: ∀ b∈fp,b < D:=λb hb=>by obtain⟨o,e⟩:=fo b hb;rw[<- hDe];exact UT e
 have pnlt: ∀ p∈X.pn++pins,p.1 < D:=λp hp=>by rw[<- hDe];exact UT (I2.pin p hp).1
 have cllt: ∀ x c,X.env.cells.lookup x=fv c->c < D:=λx c e=>by obtain⟨v,q⟩:=I2.cell x c e;rw[<- hDe];exact q.lt
 have hLD:X.env.locals < D:=by rw[<- hDe];exact I2.lt
 have hD0:X.s₀.heap.objs.size<=D:=by rw[<- hDe];exact I2.sz
 have IY0:Inv (d7 X vars scope cl' C s2 H2 fp (X.pn++pins)) [] (σ ++UN vars.length UB) H2 { s2 with heap:=h₁,toks:=s2.toks} :=
  I2.d7 hkind hlc (by rw[hDe];exact c1') cs (by rw[hDe];exact ci) f2 fo (by rw[hDe];exact hCle) hns₁ old
 have st1:=T.keep _ _ _ st2 λb _ o e=>old b o e;obtain⟨hg,hf,he⟩:=hb cl' C s2 H2 fp (X.pn++pins);generalize hY:d7 X vars scope cl' C s2 H2 fp (X.pn++pins)=Y at *;have Yprog:Y.prog=X.prog:=by rw[<- hY];rfl
 have Yw:Y.w=X.w:=by rw[<- hY];rfl
 have YK:Y.K=X.K:=by rw[<- hY];rfl
 have YA:Y.A=X.A:=by rw[<- hY];rfl
 have Ycalm:Y.calm=true:=by rw[<- hY];exact hc
 have Yenv:Y.env=WC scope cl' C X.env:=by rw[<- hY];rfl
 have Yloc:Y.env.locals=C:=by rw[Yenv];rfl
 have Yex:Y.ex=fp:=by rw[<- hY];rfl
 have Yfs:Y.fs=zV X.stack:=by rw[<- hY];rfl
 have Ys0:Y.s₀ =s2:=by rw[<- hY];rfl
 have YH0:Y.H₀ =H2:=by rw[<- hY];rfl
 have Ypn:Y.pn=X.pn++pins:=by rw[<- hY];rfl
 have YN:Y.N=oO X.N vars:=by rw[<- hY];rfl
 have Yxe: ∀ v s,¬ Y.xe v s:=by rw[<- hY];exact hx
 have noE: ∀{E':UH->UM->Prop}{v:UH}{s:UM},Y.xe v s->E' v s:=λh=>absurd h (Yxe _ _);have Ycell: ∀ x c,Y.env.cells.lookup x=fv c->c≠D:=λx c e=>by
  rw[Yenv] at e;exact(c1 x c e).elim (λz=>U7 (cllt x c z.2)) (λz=>WD (US (aa9 hCle) z.2.1))
 have fpY: ∀{H':Hp}{pl:List (U0 × Obj)},(∀ b∈fp,H' b=UB)->(∀ p∈pl,D<=p.1)-> ∀ b∈fp,lZ Y pl H' b:=λ{H' pl} hn hp b hb=>by
  refine⟨hn b hb,?_,?_,.inl (by rw[Yex];exact hb),?_,?_⟩
  . rw[Yloc];exact U7 (US (fpD b hb) hCle)
  . rw[Yfs];intro z;rcases UW.mp (I2.k9 b z) with q | q
    . exact(f2 b hb).2.1 q
    . exact(f2 b hb).2.2.1 q
  . intro x c e z;rw[Yenv] at e;exact(c1 x c e).elim (λw=>(f2 b hb).2.2.2.2.1 x c w.2 z) (λw=>absurd (US (fpD b hb) (Va (WR hCle) (z ▸ w.2.1))) (Vr _))
  . intro p hp';rcases V6.mp hp' with q | q
    . rw[Ypn] at q;exact(f2 b hb).2.2.2.2.2 p q
    . intro z;have:=hp p q;rw[z] at this;exact absurd (US (fpD b hb) this) (Vr _)
 have Dfs:D ∉ Y.fs:=by
  rw[Yfs];intro z;rcases UW.mp (I2.k9 D z) with q | q
  . exact absurd hLD (by rw[q];exact Vr _)
  . exact I2.OX (by rw[hDe];exact UL _) q
 have loop:ZM (U8 X.prog X.w) X.A (.compLoop (.ListComp elt [⟨tg,iter,ifs,0⟩] scope pos) 0 (.ref it) (.ref D) (WC scope cl' C X.env)) (RR (.ref D) C) { s2 with heap:=h₁,toks:=s2.toks}:=by
  refine oh (λn s'=> ∃ i ys H' aj k,Inv Y [(D,{ cls:= .type "list",data:= .seq aj k})] (σ ++UN vars.length UB) H' s'/\tn i s'.heap/\(∀ b∈fp,H' b=UB)/\W i n ys H'/\Vals ys aj.toList/\ys.length<=UK) ?_ m0
   ⟨0,[],H2,_,0,IY0.iY (λp hp=>?_),st1,λb hb=>(f2 b hb).1,w0,.nil,Vw _⟩
  . rintro n s3 ⟨i,ys,H3,aj,k,I3,st3,fr3,w3,hv,hlen⟩;rcases turn i n ys H3 w3 with⟨stop,q⟩ | ⟨go,hlt,step⟩
    . have d:=T.done Y Yprog Yw YK Ycalm i _ s3 _ H3 (notedBy (U8 X.prog X.w) X.A (WC scope cl' C X.env) λe s'=>RR (.ref D) C (.error e) s') I3 (fpY fr3 (by intro p hp;rw[Vz.mp hp];exact UL _)) st3 stop;rw[YA] at d;refine Vo d (λr s4 hr=>?_) λ_ _ z=>z;obtain⟨rfl,I4⟩:=hr;obtain⟨eD,nD,_,_,_⟩:=I4.pin (D,_) (U9 _ UX);dsimp only at eD nD;obtain⟨m,hnC,_⟩:=I4.loc;rw[Yloc] at hnC;have hb4:=I4.base;rw[Yfs,Yex,YH0,Ys0] at hb4;have hok4:=I4.bb;rw[Yprog,Yw] at hok4;have hCf:=I4.free;rw[Yloc] at hCf;have neD: ∀ b o,s2.heap.get? b=fv o->b≠D:=λb o e=>by rw[<- hDe];exact U7 (UT e)
      have IX:Inv X pins σ (upd H3 D (.lst ys)) s4:=by
       refine I2.O3 (ch:=fp) (I4.os.trans (by rw[Ys0])) ⟨hb4.keep,hb4.slot,λb o e n hx'=>?_,hb4.there,λb xs e=>?_,λb o u e=>?_,λb ps e=>?_⟩ (λb u e=>?_) I4.bare (λb hb'=>?_)
       . rw[ax (neD b o e)];exact hb4.free b o e n hx'
       . rw[ax (ay (hb4.kG b xs e) nD)];exact hb4.kG b xs e
       . rw[ax (ay (hb4.ku b o u e) nD)];exact hb4.ku b o u e
       . obtain⟨more,e'⟩:=hb4.lU b ps e;exact⟨more,by rw[ax (ay e' nD)];exact e'⟩
       . by_cases hbD:b=D
         . subst hbD;rw[a9] at e;cases e;exact⟨hlen,aj.toList,k,hv,by simpa using eD⟩
         . rw[ax hbD] at e;exact(hok4 b u e).qQ (λc v _ z=>z) (λc z=>by rw[ax (ay z nD)];exact z) λc xs z=>by rw[ax (ay z nD)];exact z
       . have f:=f2 b hb';exact⟨f.2.2.2.1,f.2.1,f.2.2.2.2.1,f.2.2.2.2.2⟩
      refine hRR D C s4 H3 ys m IX hnC nD (by rw[ax (W2 hDC)];exact hCf) (WD (US hLD hCle)) (Va hD0 hCle) (λx c e=>U7 (US (cllt x c e) hCle)) (λp hp=>U7 (US (pnlt p hp) hCle)) (q D nD)
    . have d:=T.item Y Yprog Yw YK Ycalm i _ s3 _ H3 (notedBy (U8 X.prog X.w) X.A (WC scope cl' C X.env) λe s'=>RR (.ref D) C (.error e) s') I3 (fpY fr3 (by intro p hp;rw[Vz.mp hp];exact UL _)) st3 go;rw[YA] at d;refine Vo d (λr s4 hr=>?_) λ_ _ z=>z;obtain⟨u,rfl,h4⟩:=hr;refine Vo h4 (λ_ s5 h5=>?_) λ_ _ z=>z;obtain⟨x,H5,I5,r5,y5,st5,fr5⟩:=h5;have I5':=I5.pinned (fpY fr5 (by intro p hp;rw[Vz.mp hp];exact UL _)) (T.obj _ _ st5);have a1:=hg _ s5 _ H5 x u _ I5' r5 (hgk _ _ _ _ (step x H5 y5));rw[Yprog,Yw,YA,Yenv] at a1;refine Vo a1 (λ_ s6 h6=>?_) λ_ _ z=>noE z;obtain⟨σ6,H6,I6,q6,k6⟩:=h6;have a2:=hf _ s6 σ6 H6 _ I6 q6;rw[Yprog,Yw,YA,Yenv] at a2;have back: ∀{pl:List (U0 × Obj)}{H':Hp}{s':UM},Inv Y pl σ6 H' s'->Inv Y pl (σ ++UN vars.length UB) H' s':=λ{pl H' s'} I'=>by
       refine I'.weak ?_ λj v e=>?_
       . rw[I'.len,<- I3.len]
       . by_cases hj:j < σ.length
         . rw[k6 j (by rw[<- I2.len];exact hj)];exact e
         . rw[Vd (aaZ.mp hj),W8] at e;split at e<;>cases e
      refine Vo a2 (λok s7 h7=>?_) λ_ _ z=>noE z;obtain⟨H7,I7,q7⟩:=h7;cases ok with
      | false =>
       rw[if_neg U4] at q7
       unfold vm
       rw[if_neg (show ¬ false=true from U4)]
       obtain⟨m',hm',w7⟩:=q7
       refine⟨m',hm',i+1,ys,H7,aj,k,(back I7).iY (λp hp=>I7.pin p (U9 _ (Xm _ hp))),T.keep _ _ _ st5 λb hb' o e=>(I7.pin (b,o) (U9 _ (U9 _ (dw hb' e)))).1,λb hb'=>?_,w7,hv,hlen⟩
       obtain⟨o,e,_⟩:=T.obj _ _ st5 b hb'
       exact(I7.pin (b,o) (U9 _ (U9 _ (dw hb' e)))).2.1
      | true =>
       rw[if_pos rfl] at q7
       unfold vm
       rw[if_pos (show true=true from rfl)]
       have a3:=he _ s7 σ6 H7 _ I7 q7
       rw[Yprog,Yw,YA,Yenv] at a3
       refine Vo a3 (λy s8 h8=>?_) λ_ _ z=>noE z
       obtain⟨v,H8,I8,r8,m',hm',w8⟩:=h8
       obtain⟨eD,nD,neL,nfD,dD⟩:=I8.pin (D,_) (U9 _ (Xm _ UX))
       dsimp only at eD nD neL nfD dD
       refine append_at (hsz:=by have:=hv.length;simp at this;omega) eD λh9 hs9 e9=>?_
       have st8:=T.keep _ _ _ st5 λb hb' o e=>(I8.pin (b,o) (U9 _ (U9 _ (dw hb' e)))).1
       have fr8: ∀ b∈fp,H8 b=UB:=λb hb'=>by
        obtain⟨o,e,_⟩:=T.obj _ _ st5 b hb';exact(I8.pin (b,o) (U9 _ (U9 _ (dw hb' e)))).2.1
       have I8':Inv Y [] (σ ++UN vars.length UB) H8 s8:=(back I8).iY λp hp=>by cases hp
       have I9:=I8'.turned (it:=D) (h':=h9) (t':=s8.toks) (λb o hb' e=>hs9.extBut b o hb' e) nD neL (.inr (by rw[Ys0,hDe];exact UL _)) (λx c e=>Ycell x c e) (λp hp=>by
        rw[Vp,Ypn] at hp;exact U7 (pnlt p hp))
       refine⟨m',hm',i+1,ys++[v],H8,aj.push y,k+1,I9.iY (λp hp=>?_),T.keep _ _ _ st8 λb hb' o e=>hs9.extBut b o (U7 (fpD b hb')) e,fr8,w8,?_,?_⟩
       . obtain rfl:=Vz.mp hp;exact⟨e9,nD,neL,nfD,λv=>by simp⟩
       . rw[Array.toList_push];exact Vals.append hv (.cons r8 .nil)
       . rw[U5,aac];exact hlt
  . obtain rfl:=Vz.mp hp;refine⟨hacc,I2.bb.fresh (by rw[hDe];exact UL _),?_,Dfs,λv=>by simp⟩;rw[Yloc];exact hDC
 exact codeAny_compStart_list loop (T.self _ 0 _ _ _ st1 loop)
end
section
variable{X:Cx}{scope:Y7}{vars:List Str}{elt tg iter:Vu}{ifs:List Vu}{pos spos py:Pos}{wi:TI}{g:TG}{tt:TT}{te:TE}{i:Nat}{y:Str}
theorem Bn vars (hc:X.calm=true) (hx: ∀ v s,¬ X.xe v s) (hkind:scope.kind= .function) (hlc:gX scope.names X.env.scope.names X.N vars=true) (hi:PI X tg iter wi)
  (hb: ∀ cl C s₀ H₀ ex pn,PG (d7 X vars scope cl C s₀ H₀ ex pn) tg g/\PF (d7 X vars scope cl C s₀ H₀ ex pn) ifs tt/\PE (d7 X vars scope cl C s₀ H₀ ex pn) elt te) (hgk:GK X.N.length g)
  (hs: ∀ x,Vt iter X.env x=pure x:=by intro _;rfl):PE X (.ListComp elt [⟨tg,iter,ifs,0⟩] scope pos) (Q2 vars.length wi g tt te):=by
 intro pins s σ H Q I h;obtain⟨cl,hcl,hc1,hc2⟩:=nh (env:=X.env) (scope:=scope) λp hp hf=>I.ok.has p.1 ((iU (X:=X) hlc p hp).2.1 hf);refine Zn (use:=UB) rfl hs hcl hkind (λp hp=>(iU (X:=X) hlc p hp).2.2) ?_;refine Vo (hi pins s σ H _ I h) (λv s1 h1=>Vo h1 (λitv s2 h2=>?_) λ_ _ z=>z) λ_ _ z=>z;obtain⟨it,fp,tn,J,H2,rfl,I2,T,st2,f2,W,⟨m0,w0⟩,turn⟩:=h2;refine nR (Q:=Q) (RR:=λacc C=>compPost (U8 X.prog X.w) X.A X.xe UB (EP X pins σ Q) acc C) hc hx hkind hlc hb hgk hc1 hc2 I2 T st2 f2 w0 turn ?_;intro D C s4 H4 ys m I4 hn nD nC neL hsz hcell hpin q;refine⟨m,hn,λh' hs'=>⟨.ref D,_,I4.turned (it:=C) (t':=s4.toks) (λb o hb e=>hs'.extBut b o hb e) nC neL (.inr hsz) hcell hpin,rfl,q⟩⟩
def B9(k i:Nat)(wi:TI)(g:TG)(tt:TT)(te:TE):TS:=λD σ H=>Q2 k wi g tt te σ H λv H1=>D.nx (σ.set i (fv v)) H1
theorem AU vars i (hc:X.calm=true) (hx: ∀ v s,¬ X.xe v s) (hkind:scope.kind= .function) (hlc:gX scope.names X.env.scope.names X.N vars=true) (hN:X.N.Nodup) (hiy:X.N[i]?=fv y) (hy:Loc X.env.scope y)
  (hi:PI X tg iter wi)
  (hb: ∀ cl C s₀ H₀ ex pn,PG (d7 X vars scope cl C s₀ H₀ ex pn) tg g/\PF (d7 X vars scope cl C s₀ H₀ ex pn) ifs tt/\PE (d7 X vars scope cl C s₀ H₀ ex pn) elt te) (hgk:GK X.N.length g)
  (hsw:Xh (.ListComp elt [⟨tg,iter,ifs,0⟩] scope pos) (fv (.Name y py)) spos.line X.env=pure true:=by rfl)
  (hs: ∀ x,Vt iter X.env x=pure x:=by intro _;rfl)
  (hf:X.fn y=true\/X.env.scope.names.lookup y=fv .local:=by first | exact .inl rfl | exact .inr rfl | assumption) :
  PS X (.Assign [.Name y py] (.ListComp elt [⟨tg,iter,ifs,0⟩] scope pos) spos) (B9 vars.length i wi g tt te):=by
 intro pins s σ H Dn I h;obtain⟨cl,hcl,hc1,hc2⟩:=nh (env:=X.env) (scope:=scope) λp hp hf=>I.ok.has p.1 ((iU (X:=X) hlc p hp).2.1 hf);rw[exec_Assign_Name_used _ _ _ _ hsw];refine UA (aaN (UA ?_));refine UA (Vo (Zn (use:=fv (Yu (.Name y py) X.env)) (Q:=λ_ s'=>SP X pins Dn .next s') rfl hs hcl hkind (λp hp=>(iU (X:=X) hlc p hp).2.2) ?_) (λ_ s' hq=>UO (UO hq)) λ_ _ e=>e);refine Vo (hi pins s σ H _ I h) (λv s1 h1=>Vo h1 (λitv s2 h2=>?_) λ_ _ z=>z) λ_ _ z=>z;obtain⟨it,fp,tn,J,H2,rfl,I2,T,st2,f2,W,⟨m0,w0⟩,turn⟩:=h2;refine nR (Q:=λv H1=>Dn.nx (σ.set i (fv v)) H1) (RR:=λacc C=>compPost (U8 X.prog X.w) X.A X.xe (fv (Yu (.Name y py) X.env)) (λ_ s'=>SP X pins Dn .next s') acc C) hc hx hkind hlc hb hgk hc1 hc2 I2 T st2 f2 w0 turn ?_;intro D C s4 H4 ys m I4 hn nD nC neL hsz hcell hpin q;refine wpAny_assign_Name (pW I4 hN hiy hy (v:= .ref D) rfl (λs5 I5 z9=>?_) hf);obtain⟨a,hsb,ha⟩:=z9;have hCa:C≠a:=by
  rcases ha with z | z
  . rw[z];exact neL
  . exact W2 (hcell _ _ z)
 refine⟨m,hn.sameBut hsb hCa,λh' hs'=>?_⟩;exact⟨_,_,I5.turned (it:=C) (t':=s5.toks) (λb o hb e=>hs'.extBut b o hb e) nC neL (.inr hsz) hcell hpin,q⟩
end
theorem KN{K:UC}{a:U0}{xs:List V}{k:Nat}{g:TG}{tt:TT}{te:TE}{σ :St}{H:Hp}{Q:VK}(Pv:Nat->List V->Hp->Prop)(h0:Pv 0 [] H)(hl: ∀ i ys H,i<=xs.length->Pv i ys H->dQ K H a xs/\ys.length<=i)(hz:xs.length<=UK)
  (hs: ∀ i x ys H,xs[i]?=fv x->Pv i ys H->g x (σ ++UN k UB) H fun σ2 H2=>tt σ2 H2 λb H3=>if b=true then te σ2 H3 λy H4=>Pv (i+1) (ys++[y]) H4 else Pv (i+1) ys H3)
  (hd: ∀ ys H,Pv xs.length ys H-> ∀ p,H p=UB->Q (.ref p) (upd H p (.lst ys)))
  (gm:rq g) (tm: ∀ σ H Q Q',(∀ b H1,Q b H1->Q' b H1)->tt σ H Q->tt σ H Q') (em: ∀ σ H Q Q',(∀ b H1,Q b H1->Q' b H1)->te σ H Q->te σ H Q') :
  ∃ W:Nat->Nat->List V->Hp->Prop,(∃ m,W 0 m [] H)/\ ∀ i m ys H,W i m ys H ->
 ((Am K a).stop i H/\ ∀ p,H p=UB->Q (.ref p) (upd H p (.lst ys))) \/
 ((Am K a).go i H/\ys.length < UK/\ ∀ x H',(Am K a).Hl i H x H'->g x (σ ++UN k UB) H' fun σ2 H2=>tt σ2 H2 λb H3 =>
  if b=true then te σ2 H3 λy H4=> ∃ m',m' < m/\W (i+1) m' (ys++[y]) H4 else ∃ m',m' < m/\W (i+1) m' ys H3):=by
 refine⟨λi m ys H=>m=xs.length - i/\i<=xs.length/\Pv i ys H,⟨xs.length,by simp,Vw _,h0⟩,?_⟩
 rintro i m ys H ⟨rfl,hi,p⟩
 obtain⟨q,hy⟩:=hl i ys H hi p
 by_cases hlt:i < xs.length
 . refine .inr ⟨⟨xs,xs[i],q,by simp[hlt]⟩,by omega,λx H' y=>?_⟩;obtain⟨e,y⟩:=y;subst e;refine gm _ _ _ _ _ (fun σ2 H2 z=>tm _ _ _ _ (λb H3 z=>?_) z) (hs i x ys _ (y xs q) p);cases b with
   | true =>
    exact em _ _ _ _ (λv H4 w=>⟨xs.length - (i+1),by omega,rfl,hlt,w⟩) z
   | false =>
    exact⟨xs.length - (i+1),by omega,rfl,hlt,z⟩
 . have e:i=xs.length:=by omega
   subst e;exact .inl ⟨⟨xs,q,UL _⟩,hd ys H p⟩
theorem uS:aM X (.builtin "isinstance") (λxs H Q=> ∃ x T t b,xs=[x,.ty T]/\jb X.K H x t/\YR X.K t (.type T)=fv b/\Q (.bl b) H):=by
 intro pins s σ H xs us Q I r h;obtain⟨x,T,t,b,rfl,ty,k,q⟩:=h;obtain⟨u,c,rfl,ru,rc⟩:=vals2 r;cases(show c=Xl T from rc);exact zw I ru ty k λtk=>⟨.bl b,H,I.tok tk,rfl,q⟩
theorem aW.get(x:aW P w H h a o): ∃ ob,h.get? a=fv ob:=by
 induction o with
 | lst xs=>obtain⟨_,aj,n,_,e⟩:=x;exact⟨_,e⟩
 | tup xs=>obtain⟨_,aj,_,ob,e,_⟩:=x;exact⟨_,e⟩
 | dK kvs=>obtain⟨_,_,vs,_,ob,es,ep,e,_⟩:=x;exact⟨_,e⟩
 | dT kvs=>obtain⟨_,_,xs,_,ob,es,ep,e,_⟩:=x;exact⟨_,e⟩
 | set S n=>obtain⟨ob,es,ep,t,e,_⟩:=x;exact⟨_,e⟩
 | ins C dx fs=>obtain⟨_,_,_,e,_⟩:=x;exact⟨_,e⟩
 | own y=>exact x
 | xd fs=>obtain⟨mA,⟨od,es,ep,e,_⟩,_⟩:=x;exact⟨_,e⟩
 | Aa lo hi=>obtain⟨t,u,v,e⟩:=x;exact⟨_,e⟩
 | jx ob u ih=>obtain⟨e,_⟩:=x;exact⟨_,e⟩
 | tbl ps=>exact⟨_,x⟩
 | met f y=>exact⟨_,x⟩
 | ext φ =>obtain⟨_,e,_⟩:=x;exact e
theorem Inv.kW{σ :St}(I:Inv X pins σ H s)(k: ∀ b u,s.heap.get? b=fv u->h'.get? b=fv u)(hp:s.heap.get? a=UB)(new:aW X.prog X.w (upd H a o) h' a o) :
  H a=UB/\Inv X pins σ (upd H a o) { s with heap:=h',toks:=t'}:=by
 have hn:H a=UB:=by
  cases q:H a with
  | none=>rfl
  | some u =>
   obtain⟨ob,e⟩:=(I.bb a u q).get
   rw[hp] at e;cases e
 have ne: ∀ b u,s.heap.get? b=fv u->b≠a:=λb u e z=>by simp_all
 refine⟨hn,I.un ⟨λb u q _ _ _=>k b u q,λb u q _ _ _=>⟨u.slots,k b u q⟩,λb u q n _=>?_,λb u q _=>⟨u,k b u q⟩,λb xs q=>?_,λb u xs q=>?_,λb ps q=>?_⟩ λb u e=>?_⟩
 . rw[ax (ne b u q)];exact n
 . rw[ax (ay q hn)];exact q
 . rw[ax (ay q hn)];exact q
 . exact⟨#[],by rw[ax (ay q hn),q];simp⟩
 . by_cases hb:b=a
   . subst hb;rw[a9] at e;cases e;exact new
   . rw[ax hb] at e;exact(I.bb b u e).qQ (λc v _ q=>k c v q) (λc q=>by rw[ax (ay q hn)];exact q) λc xs q=>by rw[ax (ay q hn)];exact q
theorem kR{h h':VO}(k: ∀ b o,h.get? b=fv o->h'.get? b=fv o):h.get? h'.objs.size=UB:=by
 cases q:h.get? h'.objs.size with
 | none=>rfl
 | some o=>exact absurd (UT (k _ _ q)) (Vr _)
section
variable{prog:Vl}{w:VE}{A:Wf}{E:UH->UM->Prop}{s:UM}
theorem kh{a:U0}{vs:List UH}{ss:List Str}{n:Nat}{Q:UH->UM->Prop}(ho:s.heap.get? a=fv (Xz "list" vs.toArray n))(hS:YG vs ss)(h64:vs.length < 64)
  (h: ∀(out:Array UH)(ss':List Str),YG out.toList ss'->ss'.Perm ss->Ze ss'=true->Q .none { s with heap:=ZV s.heap a vs out}) :
  U2 (U8 prog w) A (call (.builtin "list.sort") [.ref a]) Q E s:=by
 refine Wq aah ⟨_,ho,rfl⟩ Z6 (list_sort_treeK strKind_oneLt ho hS.keysOf (λv₁ v₂ rest e=>keyKind_strs (by rw[<- e];exact hS)) h64 λst' hp hs=>⟨_,rfl,?_⟩) (aai _);have z:=sorted_out_str hS hp hs;exact h _ z.choose z.choose_spec.1 z.choose_spec.2.1 z.choose_spec.2.2
theorem vh{T:String}{r d:U0}{n:Nat}{P:Nat->UH->Prop}{OK:VO->Prop}{Q:UH->UM->Prop}(K:PySem.W.KdlSrc prog w T r d n P OK)(hh:A.handled=UB)(bb:OK s.heap)(hn:n<=UK)
  (h: ∀(D:U0)(h':VO)(tk:Nat)(vs:List UH),(∀ b o,s.heap.get? b=fv o->h'.get? b=fv o)->h'.get? D=fv (Xz "list" vs.toArray 0)->s.heap.get? D=UB->vs.length=n->(∀(j:Nat)(v:UH),vs[j]?=fv v->P j v) ->
   U2 (U8 prog w) A.in1 (call (.builtin "list.sort") [.ref D]) (λ_ z=>Q (.ref D) z) E { s with heap:=h',toks:=tk}):U2 (U8 prog w) A (call (.builtin "sorted") [.ref r]) Q E s:=by
 refine Xv abF aba abb (abc (.ref r)) ?_;refine UA (m:=checkCount "sorted" 1 1 [U6 r].length) (UO (UA (PySem.W.kdu_collect (A:=A.in1) K hh bb hn λh' tk acc hk hacc=>?_)));have many:=WB.trans hacc.1;refine UA (Yk (UA (Wg (Vo (h h'.objs.size (h'.push { cls:= .type "list",data:= .seq acc.toList.toArray}) tk acc.toList (λb o e=>UD _ (hk b o e)) (UY _ rfl) (kR hk) many
  λj v e=>hacc.2 j v (Array.getElem?_toList ▸ e)) (λ_ z q=>UO (ab5 _ (ZA rfl q))) λ_ _ e=>e))) (many ▸ hn))
end
theorem gE: ∀{us},Vals (ss.map V.str) us->YG us ss:=by
 induction ss with
 | nil=>intro us h;cases h;exact .nil
 | cons x r ih =>
  intro us h
  cases h with
  | cons hx ht =>
   obtain⟨t,rfl⟩:=hx
   exact .cons x t (ih ht)
theorem iR: ∀{us ss},YG us ss->Vals (ss.map V.str) us
 | _,_,.nil=> .nil
 | _,_,.cons x t h=> .cons ⟨t,rfl⟩ (iR h)
theorem xr{P:Nat->UH->Prop}: ∀{ss:List Str}{vs:List UH},vs.length=ss.length->(∀(j:Nat)(v:UH)(x:Str),vs[j]?=fv v->ss[j]?=fv x-> ∃ t,v=Yg x t)->YG vs ss
 | [],[],_,_=> .nil
 | x::r,v::vs,hl,h=>by
  obtain⟨t,rfl⟩:=h 0 v x rfl rfl;exact .cons x t (xr (P:=P) (by simpa using hl) λj v y e1 e2=>h (j+1) v y (by simpa using e1) (by simpa using e2))
section
variable{X:Cx}
theorem kU:aM X (.builtin "sorted") (λxs H Q=> ∃ p ss,xs=[.ref p]/\gB X.K H p (ss.map V.str)/\ss.length < 64/\ ∀ l ss',H l=UB->ss'.Perm ss->Ze ss'=true->Q (.ref l) (upd H l (.lst (ss'.map V.str)))):=by
 intro pins s σ H xs us Q I r h;obtain⟨p,ss,rfl,hS,h64,q⟩:=h;obtain⟨u,rfl,ru⟩:=vals1 r;cases(show u=U6 p from ru);obtain⟨aj,hv,hl,hz⟩:=I.list hS;have sa:=gE hv;refine sorted_strs hl.isList sa (by rw[sa.length];exact h64) λout ss' a1 a2 a3=>?_;obtain⟨e,he⟩:=abd s.heap aj out;have hlen:(ss'.map V.str).length<=UK:=by rw[UE,a2.length_eq];exact WO (US h64 (by decide))
 obtain⟨hn,I'⟩:=I.kW (a:=s.heap.objs.size+1) (o:= .lst (ss'.map V.str)) (t':=s.toks) (λb o e=>aaP e) (Wv (aan _)) ⟨hlen,out.toList,e,iR a1,by omega⟩;exact⟨.ref _,_,I',rfl,q _ ss' hn a2 a3⟩
theorem k8(hc:X.calm=true):aM X (.builtin "sorted") (λxs H Q=> ∃ d kvs ss,xs=[.ref d]/\H d=fv (.dK kvs)/\kvs.map (·.1)=ss.map VY/\ss.length < 64/\ ∀ l ss',H l=UB->ss'.Perm ss->Ze ss'=true->Q (.ref l) (upd H l (.lst (ss'.map V.str)))):=by
 intro pins s σ H xs us Q I r h;obtain⟨d,kvs,ss,rfl,hd,hk,h64,q⟩:=h;obtain⟨u,rfl,ru⟩:=vals1 r;cases(show u=U6 d from ru);obtain⟨z,lo,vs,rel,dd⟩:=tu I.bb hd;obtain⟨ep,da⟩:=dd.dictAt;have hlen:vs.length=ss.length:=by
  have e1:=rel.length;have e2:(kvs.map (·.1)).length=(ss.map (VY (α :=Int))).length:=by rw[hk]
  rw[UE,UE] at e2;omega
 refine vh (PySem.W.kdl_dict (knd:=aJ X.prog X.w) (kvs:=vs) (ep:=ep) lo) (I.ok.hd hc) da (by rw[hlen];exact WO (US h64 (by decide))) λD h' tk ws keep hD hDn hl hP=>?_;have sa:YG ws ss:=by
  refine xr (P:=λ_ _=>True) (by rw[hl,hlen]) λj v x e1 e2=>?_;obtain⟨k,y,e3,hk'⟩:=hP j v e1;have e4:(kvs.map (·.1))[j]?=fv k:=by
   have e5:=rel.keys;rw[e5,U1,e3];rfl
  rw[hk,U1,e2] at e4;have e6:=Vx e4;subst e6;rcases bp (show nL (VY x) v=true from hk') with⟨i,t,z,_⟩ | ⟨x',t,z,e⟩
  . cases z
  . cases z;exact⟨t,e⟩
 refine kh (n:=0) hD sa (by rw[hl,hlen];exact h64) λout ss' a1 a2 a3=>?_;obtain⟨e,he⟩:=sortedHeap_at (out:=out) hD;have hle:(ss'.map V.str).length<=UK:=by rw[UE,a2.length_eq];exact WO (US h64 (by decide))
 have keep': ∀ b o,s.heap.get? b=fv o->(ZV h' D ws out).get? b=fv o:=λb o e=>by
  rw[sortedHeap_old (λz=>by simp_all) (UT (keep b o e))];exact keep b o e
 obtain⟨hn,I'⟩:=I.kW (a:=D) (o:= .lst (ss'.map V.str)) (t':=tk) keep' hDn ⟨hle,out.toList,e,iR a1,by omega⟩;exact⟨.ref _,_,I',rfl,q _ ss' hn a2 a3⟩
end
section
variable{prog:Vl}{w:VE}{A:Wf}{E:UH->UM->Prop}{s:UM}
theorem o6:typeLookup (.type "tuple") "keys" =pure UB:=am_miss_of_fast (by rfl)
set_option maxHeartbeats 4500000 in
set_option maxRecDepth 9000 in
theorem oT{a:U0}{o:Obj}{xs:Array UH}{k:Nat}{Q:Option UH->UM->Prop}
  (hx:s.heap.get? a=fv o) (hc:o.cls= .type "tuple") (hdat:o.data= .seq xs k) (hd:o.dict=UB) (hA:A.handled=UB)
  (h: ∀ h' tk,(∀ b o,s.heap.get? b=fv o->h'.get? b=fv o)->Q UB { s with heap:=h',toks:=tk}):U2 (U8 prog w) A (getAttr? (.ref a) "keys") Q E s:=by
 obtain⟨c,dct,dat,sl⟩:=o;simp only at hc hdat hd;subst hc hdat hd;obtain⟨h0,gs,dr,t0,o0⟩:=s;have hT: ∀ k,(Shared.mk h0 gs dr k o0).TypeIs (.ref a) "tuple" :=λ_=>ab5 _ (ZA hx rfl);have f1:=sub_AttributeError;have f3:=F.slot_tuple_getattribute.lookup;have f4:=F.slot_tuple_getattribute.bind (.ref a);have f5:=am_tuple_getattr_none;unfold getAttr?;unfold getAttrBy?;unfold getAttrBy
 repeat (any_goals (first | assumption | exact hT _ | ((with_reducible show U2 _ _ (call (Value.builtin "tuple.__getattribute__") _ _) _ _ _);refine WA F.slot_tuple_getattribute (hT _) am_entry_tuple_getattribute (F.args_tuple_getattribute_2 _ _) (meets_getattribute_miss_tuple a xs k sl "keys" _ o6 (by decide +kernel)) ⟨hx,hA,λh' tk' e hx'=>?_⟩) | wp_step))
 obtain⟨_,_,he⟩:=hx'.there
 with_reducible_and_instances unfold getattributeRaised
 repeat (any_goals (first | exact he | assumption | wp_step))
 exact h _ _ λb o e=>hx'.keeps b o e
end
section
variable{prog:Vl}{w:VE}{A:Wf}{E:UH->UM->Prop}{s:UM}
theorem fD:entryFor table "dict.update.loop" =fv XT.«dict.update.loop» :=entryFor_of_tree (by kernel_rfl)
theorem bU:plainId "dict.update.loop" =true:=by decide +kernel
theorem QH[Decidable c](hc:c)(h:U2 M A m Q E s):U2 M A (if c then m else m') Q E s:=by rw[if_pos hc];exact h
def kz(prog:Vl)(w:VE)(h:VO)(v:UH)(kv:Key × UH):= ∃ b o kx n,v= .ref b/\h.get? b=fv o/\o.cls= .type "tuple" /\o.data= .seq #[kx,kv.2] n/\(aJ prog w).is kv.1 kx=true
theorem kz.keeps(x:kz prog w h v kv)(k: ∀ b o,h.get? b=fv o->o.cls= .type "tuple" ->h'.get? b=fv o):kz prog w h' v kv :=
 by obtain⟨b,o,kx,n,e,g,c,d,r⟩:=x;exact⟨b,o,kx,n,e,k b o g c,c,d,r⟩
theorem uh{R:Result->UM->Prop}{it tp d:U0}{items:Array UH}{kvs:List (Key × UH)}{res:UH}(hh:A.handled=UB)(hne:tp≠it)(hdi:d≠it)(hdt:d≠tp)(hl:kvs.length=items.size)(hz:items.size < UK) :
  ∀(k i:Nat)(ii:Int)(s:UM)(acc:List (Key × UH)),items.size - i=k->i<=items.size->acc.length<=i->s.heap.IsTupleIter it tp i->s.heap.IsTuple tp items->s.heap.DictOf (aJ prog w) d acc->(∃ od,s.heap.get? d=fv od/\od.cls= .type "dict")->(∃ oi,s.heap.get? it=fv oi/\oi.cls= .type "tuple_iterator") ->
   (∀(j:Nat)(v:UH)(kv:Key × UH),items[j]?=fv v->kvs[j]?=fv kv->kz prog w s.heap v kv) ->
   (∀ s' ,s'.heap.DictOf (aJ prog w) d (merged acc (kvs.drop i))->(∃ h' tk,s'={ s with heap:=h',toks:=tk})->(∀ b o,b≠d->b≠it->s.heap.get? b=fv o->s'.heap.get? b=fv o)->R (.ok (.ret res)) s') ->
   ZM (U8 prog w) A (.builtin "dict.update.loop" ⟨[.ref d,.ref it,.int ii 0,res],[]⟩) R s:=by
 have W:=Walks.tuple (prog:=prog) (w:=w) (A:=A.in1) hh it tp hne items;intro k
 induction k with
 | zero =>
  intro i ii s acc hk hi hac hit htp hd hdc hic hP hR
  obtain rfl:i=items.size:=Nat.le_antisymm hi (by omega)
  refine Yy fD ?_
  rw[aao bU _]
  show U2 _ A.in1 (abm (.ref it) >>= _) _ _ s
  refine UA (W.done s _ _ ⟨hit,htp⟩ λh' tk keep=>?_)
  refine UO (hR _ ?_ ⟨h',tk,rfl⟩ λb o _ hb e=>keep b o (by simpa using hb) e)
  rw[Wi (by omega)]
  exact hd.at λo e=>keep d o (by simpa using hdi) e
 | succ k ih =>
  intro i ii s acc hk hi hac hit htp hd hdc hic hP hR
  have hlt:=Nat.lt_of_le_of_ne hi (by omega)
  refine Yy fD ?_
  rw[aao bU _]
  show U2 _ A.in1 (abm (.ref it) >>= _) _ _ s
  refine UA (W.item i s _ _ hlt ⟨hit,htp⟩ λv h' tk hv hst keep=>?_)
  have hkv:i < kvs.length:=by omega
  obtain⟨b,o,kx,n,rfl,hb,hc,hdat,his⟩:=hP i v kvs[i] hv (by simp[hkv])
  have hbi:b≠it:=λz=>by
   obtain⟨oi,e1,e2⟩:=hic;rw[z,e1] at hb;cases hb;rw[e2] at hc;exact absurd hc (by decide)
  have hb':=keep b o (by simpa using hbi) hb
  have hT:(({ s with heap:=h',toks:=tk}:UM)).TypeIs (.ref b) "tuple" :=⟨o,hb',hc⟩
  have hd':=hd.at λo e=>keep d o (by simpa using hdi) e
  dsimp only
  refine UA (Wg (UA (wpAny_tryCatch ?_)))
  unfold Builtin.Dict.pairItems
  refine UA (Xr hT (QH (by decide) (UA (Wx hb' hdat (UO ?_)))))
  refine Wg (wpAny_dictSet_pairs (hsz:=by omega) his hd' λh'' dd hs=>?_)
  obtain⟨od,hod,hodc⟩:=hdc
  have keep2:=λb o h1 h2 e=>(hs.2 b h1).trans (keep b o (by simpa using h2) e)
  refine UO ⟨plainId_quiet bU _,?_⟩
  refine ih (i+1) (ii+1) _ (stored acc kvs[i].1 kvs[i].2) (by omega) hlt (Va (stored_length_le _ _ _) (by omega)) (hst.1.at λo e=>(hs.2 it (W2 hdi)).trans e) (htp.at λo e=>keep2 tp o (W2 hdt) hne e) dd ?_ ?_ ?_ ?_
  . obtain⟨q,es,ep,e1,e2,_⟩:=dd;exact⟨q,e1,e2.1⟩
  . obtain⟨oi,e1,e2,_⟩:=hst.1;exact⟨oi,(hs.2 it (W2 hdi)).trans e1,e2⟩
  . intro j v kv e1 e2;refine(hP j v kv e1 e2).keeps λb' o' e3 e4=>keep2 b' o' (λz=>?_) (λz=>?_) e3
    . rw[z,hod] at e3;cases e3;rw[hodc] at e4;exact absurd e4 (by decide)
    . obtain⟨oi,f1,f2⟩:=hic;rw[z,f1] at e3;cases e3;rw[f2] at e4;exact absurd e4 (by decide)
  . rintro s' dd' ⟨h3,tk3,rfl⟩ keep3;refine hR _ ?_ ⟨h3,tk3,rfl⟩ λb o h1 h2 e=>keep3 b o h1 h2 (keep2 b o h1 h2 e);have e:=Xw hkv;rw[e];exact dd'
theorem pD{p:U0}{o:Obj}{items:Array UH}{n:Nat}{kvs:List (Key × UH)}{Q:UH->UM->Prop}(hh:A.handled=UB)(hb:VP < s.heap.objs.size)(hp:s.heap.get? p=fv o)(hc:o.cls= .type "tuple")(hdt:o.data= .seq items n)(hdn:o.dict=UB)
  (hl:kvs.length=items.size) (hz:items.size < UK) (hP: ∀(j:Nat)(v:UH)(kv:Key × UH),items[j]?=fv v->kvs[j]?=fv kv->kz prog w s.heap v kv)
  (h: ∀ h' tk,h'.DictOf (aJ prog w) s.heap.objs.size (merged [] kvs)->(∀ b o,s.heap.get? b=fv o->h'.get? b=fv o)->Q (.ref s.heap.objs.size) { s with heap:=h',toks:=tk}) :
  U2 (U8 prog w) A (call (.type "dict") [.ref p]) Q E s:=by
 refine callType_codes (Q₁ :=λz u=>z= .ref s.heap.objs.size/\u={ s with heap:=s.heap.push { cls:= .type "dict",data:= .dict #[]}}) F.kt_called_dict (F.kt_typeCall_dict_1 _) F.entry_dict_init (kt_code_dict_new _ ⟨rfl,rfl⟩) ?_;rintro obj s₁ ⟨rfl,rfl⟩;have up: ∀ b o,s.heap.get? b=fv o->(s.heap.push { cls:= .type "dict",data:= .dict #[]}).get? b=fv o:=λb o e=>UD _ e;have hnew:(s.heap.push { cls:= .type "dict",data:= .dict #[]}).DictOf (aJ prog w) s.heap.objs.size []:=Z4 s.heap;have hp1:=up _ _ hp;refine⟨hnew.typeIs,F.args_dict_init_2 (.ref s.heap.objs.size) (.ref p),?_⟩
 with_unfolding_all refine UA (m:=Zo _ _) (UA (aad hnew.typeIs (UO ?_)))
 show U2 _ _ (ZC "dict.__init__" s.heap.objs.size (.ref p) [] .none) _ _ _;refine UA (Xr (T:= "tuple") ⟨o,hp1,hc⟩ ?_);refine UA (oT hp1 hc hdt hdn hh λh1 tk1 k1=>?_);refine UA (ZW ?_);have htp1:h1.IsTuple p items:=⟨o,k1 _ _ hp1,hc,n,hdt⟩
 refine UA (Wr htp1 ?_);have up2: ∀ b o,h1.get? b=fv o->(h1.push { cls:= .type "tuple_iterator",data:= .fields #[.ref p,.int 0 0]}).get? b=fv o:=λb o e=>UD _ e;have hd1:=k1 _ _ (UY _ rfl);have hpl:=UT (k1 _ _ hp1);have hdl:=UT hd1;have hps:=UT hp;refine UO ⟨plainId_quiet bU _,?_⟩;refine uh (A:=A.in1) (it:=h1.objs.size) (tp:=p) (kvs:=kvs) hh (U7 hpl) (U7 hdl) (WD hps) hl hz items.size 0 0 _ [] rfl (Vw _) (UL _) ⟨_,UY _ rfl,rfl,rfl⟩ (htp1.push _) ?_ ⟨_,up2 _ _ hd1,rfl⟩ ⟨_,UY _ rfl,rfl⟩ ?_ ?_
 . exact(hnew.at λo e=>up2 _ o (k1 _ o e))
 . exact λj v kv e1 e2=>(hP j v kv e1 e2).keeps λb o e _=>up2 b o (k1 b o (up b o e))
 . rintro s' dd ⟨h3,tk3,rfl⟩ keep3;refine⟨rfl,h h3 tk3 (by simp_all) λb o e=>keep3 b o (U7 (UT e)) (U7 (UT (k1 _ _ (up _ _ e)))) (up2 _ _ (k1 _ _ (up _ _ e)))⟩
end
section
variable{X:Cx}
def pV(H:Hp)(y:V)(kv:Key × V):= ∃ b,y= .ref b/\H b=fv (.tup [kV kv.1,kv.2])
theorem p7(ok:jl P w H h): ∀{ys kvs aj},VH (pV H) ys kvs->Vals ys aj-> ∃ vs ,KV kvs vs/\vs.length=aj.length /\
  ∀(j:Nat) v kv,aj[j]?=fv v->vs[j]?=fv kv->kz P w h v kv
 | _,_,_,.nil,.nil=>⟨[],.nil,rfl,λj v kv e=>by simp at e⟩
 | _,_,_,.cons (b:=kv0) hp hr,.cons hv hrv=>by
  obtain⟨vs,h1,h2,h3⟩:=p7 ok hr hrv;obtain⟨b,rfl,hb⟩:=hp;obtain⟨_,its0,r0,o,e1,e2,n,e3,_⟩:=(show aW P w H h b (.tup [kV kv0.1,kv0.2]) from ok b _ hb)
  obtain⟨u1,u2,rfl,r1,r2⟩:=vals2 r0;cases(show _=U6 b from hv);refine⟨(kv0.1,u2)::vs,.cons ⟨rfl,r2⟩ h1,by simp[h2],λj v kv f1 f2=>?_⟩;cases j with
  | zero =>
   simp only[List.getElem?_cons_zero,X8] at f1 f2
   subst f1 f2
   exact⟨b,o,u1,n,rfl,e1,e2,e3,jN r1⟩
  | succ j=>exact h3 j v kv (by simpa using f1) (by simpa using f2)
theorem KV.sQ(r:KV kvs vs):KV (cq [] kvs) (merged [] vs):=KV.merge r .nil
theorem l7(hc:X.calm=true):aM X (.type "dict") (λxs H Q=> ∃ p ys kvs,xs=[.ref p]/\H p=fv (.tup ys)/\VH (pV H) ys kvs/\ys.length < UK/\ ∀ d,H d=UB->Q (.ref d) (upd H d (.dK (cq [] kvs)))):=by
 intro pins s σ H xs us Q I r h;obtain⟨p,ys,kvs,rfl,hp,hP,hz,q⟩:=h;obtain⟨u,rfl,ru⟩:=vals1 r;cases(show u=U6 p from ru);obtain⟨_,aj,r0,o,e1,e2,n,e3,e4⟩:=(show aW X.prog X.w H s.heap p (.tup ys) from I.bb p _ hp)
 obtain⟨vs,h1,h2,h3⟩:=p7 I.bb hP r0;have hlen:=r0.length;have hk:=XC hP;refine pD (kvs:=vs) (I.ok.hd hc) I.big e1 e2 e3 e4 (by omega) (by simp;omega) (λj v kv f1 f2=>h3 j v kv (by simpa using f1) f2) λh' tk dd keep=>?_;have hle:(cq [] kvs).length<=UK:=by have:=dE kvs [];simp at this;omega
 obtain⟨hn,I'⟩:=I.kW (a:=s.heap.objs.size) (o:= .dK (cq [] kvs)) (t':=tk) keep (Wv (UL _)) (rQ hle (beq_eq_false_iff_ne.mpr (W2 (U7 I.big))) (KV.sQ h1) dd);exact⟨.ref _,_,I',rfl,q _ hn⟩
end
def lC(P:Vl)(w:VE)(K:UC)(mg:Str->Option UH) base x k (ps:List Str) sp :=
 ∃(f:U0)(fd:XE),j4 P w K mg base uQ k f fd ps sp/\mg x=fv (.ref f)/\W7 K (.ref f)=true/\Binds K fd ps []/\ ∀ us ,us.length=ps.length->XF fd ⟨us,[]⟩=pure (ps.zip us)
theorem zU.args{K st}{ps:List Str}(F:zU K x qual st f fd)
  (h: ∀ kV doc pm an cdv ct us,us.length=ps.length->XF (V2 x qual (cA st) (bo st) (az st) .none kV doc pm an cdv ct) ⟨us,[]⟩=pure (ps.zip us)): ∀ us ,us.length=ps.length->XF fd ⟨us,[]⟩=pure (ps.zip us):=by
 obtain⟨oc,od,kV,doc,pm,an,cdv,ct,osl,rfl,lk,hcd⟩:=F.ex;exact h kV doc pm an cdv ct
def At(K:UC)(mg:Str->Option UH) x st:= ∃(f:U0)(fd:XE),zU K x x st f fd/\mg x=fv (.ref f)
section
variable{P:Vl}{w:VE}{K:UC}{mg:Str->Option UH}{base:VO}
theorem At.ok{st}(a:At K mg x st)(S:dZ N ps (az st))
  (hb: ∀ kV doc pm an cdv ct us,us.length=ps.length->XF (V2 x x (cA st) (bo st) (az st) .none kV doc pm an cdv ct) ⟨us,[]⟩=pure (ps.zip us))
  (len: ∀ vs H Q E,sp vs H Q E->vs.length=ps.length)
  (hbody: ∀ f cdv A outer s H vs Q E,cO k (A.deeper (YT x (az st) s.heap.objs.size f cdv))->sp vs H Q E ->
   ∃ t,vU (jZ uQ P w K mg base N x (az st) f cdv A outer s H E).sC (bo st) t/\t { nx:=λ_ H'=>Q .non H',rt:=Q} (start N vs) H):lC P w K mg base x (k+1) ps sp:=by
 obtain⟨f,fd,F,hm⟩:=a;exact⟨f,fd,F.ok S len λcdv A outer s H vs Q E=>hbody f cdv A outer s H vs Q E,hm,F.kp,F.binds hb,F.args hb⟩
theorem At.zJ{st}(a:At K mg x st)(hb: ∀ (kV doc pm) (an) (cdv ct) (us),us.length=ps.length->XF (V2 x x (cA st) (bo st) (az st) .none kV doc pm an cdv ct) ⟨us,[]⟩=pure (ps.zip us))
  (no: ∀ vs H Q E,¬ sp vs H Q E):lC P w K mg base x 0 ps sp:=by
 obtain⟨f,fd,F,hm⟩:=a;exact⟨f,fd,⟨λvs H Q E h=>absurd h (no vs H Q E),λA outer s H args us vs Q E _ _ _ _ h=>absurd h (no vs H Q E)⟩,hm,F.kp,F.binds hb,F.args hb⟩
end
section
variable{X:Cx}{x:Str}{k j:Nat}{ps:List Str}{sp:Sp}{e:Vu}{es:List Vu}{t:TA}{p pos:Pos}
theorem RA(D:lC X.prog X.w X.K X.mg X.base x j ps sp)(hr:cO k X.A)(hg:Gl X x)(hj:j<=k)(ha:PA X (e::es) t)(hdb:(x == ("__debug__"))=false:=by decide)
  (he:Vk (e::es) X.env=(false,Wt e X.env)::Vk es X.env:=by rfl) (hpl:(Yh pos (Vk es X.env)).any (·.1)=false:=by rfl):PE X (.Call (.Name x p) (e::es) [] pos) (ya sp [] E0 t):=by
 obtain⟨f,fd,F,hm,kp,bd,_⟩:=D;exact FL F (hr.mono hj) hg hm kp bd .nil OP ha hdb he hpl
end
theorem OF{K st kV}(X:K.In h)(G:h.Ns Vh mg)
  (a:V4 K Vh x=fv (fv (.ref f))) (l:K.lookup f=fv ⟨oc,od,.func (V2 x x (cA st) (bo st) (az st) .none kV doc pm an cdv ct),osl⟩) (c:ZS K cdv x=true) (k:W7 K (.ref f)=true):At K mg x st :=
 ⟨f,_,K7 l c k,V5 X G a⟩
structure Bl(mg:Str->Option UH):Prop where
 len:mg "len" =UB
 range:mg "range" =UB
 isinstance:mg "isinstance" =UB
 int:mg "int" =UB
 bool:mg "bool" =UB
 tuple:mg "tuple" =UB
 dict:mg "dict" =UB
 sorted:mg "sorted" =UB
 min:mg "min" =UB
 max:mg "max" =UB
 abs:mg "abs" =UB
def Kp a (H H':Hp):= ∀ b o,b≠a->H b=fv o->H' b=fv o
theorem Kp.trans(x:Kp a H H1)(y:Kp a H1 H2):Kp a H H2:=λb o n h=>y b o n (x b o n h)
theorem l8.kp(x:l8 H H'):Kp a H H':=λb o _ h=>x b o h
theorem Kp.st:Kp a H (upd H a o):=λb u n q=>by rw[ax n];exact q
theorem Kp.lst{a b H H' K xs kvs}(x:Kp a H H')(ha:H a=fv (.dK kvs))(h:gB K H b xs):gB K H' b xs:=by
 rcases h with(h | ⟨o,h⟩) | h
 . exact .inl (.inl (x _ _ (qj h ha (by simp_all)) h))
 . exact .inl (.inr ⟨o,x _ _ (qj h ha (by simp_all)) h⟩)
 . exact .inr h
theorem Kp.tup{a b H H' xs kvs}(x:Kp a H H')(ha:H a=fv (.dK kvs))(h:H b=fv (.tup xs)):H' b=fv (.tup xs):=x _ _ (qj h ha (by simp_all)) h
class uN (t:TE):Prop where
 m: ∀ σ H Q Q',(∀ x H1,Q x H1->Q' x H1)->t σ H Q->t σ H Q'
class sM (t:TT):Prop where
 m: ∀ σ H Q Q',(∀ x H1,Q x H1->Q' x H1)->t σ H Q->t σ H Q'
class S8 (t:TA):Prop where
 m: ∀ σ H Q Q',(∀ x H1,Q x H1->Q' x H1)->t σ H Q->t σ H Q'
class Tn (t:TO):Prop where
 m: ∀ σ H Q Q',(∀ x H1,Q x H1->Q' x H1)->t σ H Q->t σ H Q'
class Tw (t:TI):Prop where
 m: ∀ σ H Q Q',(∀ x H1,Q x H1->Q' x H1)->t σ H Q->t σ H Q'
class SQ (r:R2):Prop where
 m: ∀ x y H Q Q',(∀ x H1,Q x H1->Q' x H1)->r x y H Q->r x y H Q'
class Ti (r:V->Hp->VK->Prop):Prop where
 m: ∀ x H Q Q',(∀ x H1,Q x H1->Q' x H1)->r x H Q->r x H Q'
class TV (r:List V->Hp->VK->Prop):Prop where
 m: ∀ x H Q Q',(∀ x H1,Q x H1->Q' x H1)->r x H Q->r x H Q'
class S5 (r:V->List V->Hp->VK->Prop):Prop where
 m: ∀ x xs H Q Q',(∀ x H1,Q x H1->Q' x H1)->r x xs H Q->r x xs H Q'
class S9 (r:V->Option Int->Option Int->Hp->VK->Prop):Prop where
 m: ∀ x l u H Q Q',(∀ x H1,Q x H1->Q' x H1)->r x l u H Q->r x l u H Q'
class Sd (sp:Sp):Prop where
 m: ∀ vs H Q Q' E,(∀ x H1,Q x H1->Q' x H1)->sp vs H Q E->sp vs H Q' E
section
variable{X:Cx}
def Ng(K:UC):List V->Hp->VK->Prop:=λxs H Q=> ∃ p ys,xs=[.ref p]/\(gB K H p ys\/dQ K H p ys)/\Q (.int ys.length) H
def Nu:List V->Hp->VK->Prop:=λxs H Q=> ∃ z,xs=[.str z]/\z.length<=UK/\Q (.int z.length) H
theorem EJ:aM X (.builtin "len") (λxs H Q=>Ng X.K xs H Q\/Nu xs H Q):=si.or rP
def Qa(K:UC):List V->Hp->VK->Prop:=λxs H Q=> ∃ x T t b,xs=[x,.ty T]/\jb K H x t/\YR K t (.type T)=fv b/\Q (.bl b) H
theorem Ez:aM X (.builtin "isinstance") (Qa X.K):=uS
def BI(K:UC):List V->Hp->VK->Prop:=λxs H Q=> ∃ p ss,xs=[.ref p]/\gB K H p (ss.map V.str)/\ss.length < 64/\ ∀ l ss',H l=UB->ss'.Perm ss->Ze ss'=true->Q (.ref l) (upd H l (.lst (ss'.map V.str)))
def AQ:List V->Hp->VK->Prop:=λxs H Q=> ∃ d kvs ss,xs=[.ref d]/\H d=fv (.dK kvs)/\kvs.map (·.1)=ss.map VY/\ss.length < 64/\ ∀ l ss',H l=UB->ss'.Perm ss->Ze ss'=true->Q (.ref l) (upd H l (.lst (ss'.map V.str)))
def Mx:List V->Hp->VK->Prop:=λxs H Q=> ∃ p ys kvs,xs=[.ref p]/\H p=fv (.tup ys)/\VH (pV H) ys kvs/\ys.length < UK/\ ∀ d,H d=UB->Q (.ref d) (upd H d (.dK (cq [] kvs)))
theorem Bc(hc:X.calm=true):aM X (.type "dict") Mx:=l7 hc
def R8:List V->Hp->VK->Prop:=λxs H Q=> ∃ i,xs=[.int i]/\Q (.int (if i < 0 then -i else i)) H
def M9:List V->Hp->VK->Prop:=λxs H Q=>(∃ i,xs=[.int i]/\Q (.int i) H)\/ ∃ k,xs=[.bl k]/\Q (.int (if k then 1 else 0)) H
def Ja(K:UC):List V->Hp->VK->Prop:=λxs H Q=> ∃ p ys,xs=[.ref p]/\((gB K H p ys/\ ∀ l,H l=UB->Q (.ref l) (upd H l (.tup ys)))\/(dQ K H p ys/\Q (.ref p) H))
theorem DT:aM X (.builtin "abs") R8:=BR
theorem F2:aM X (.type "int") M9:=yz
theorem Ep:aM X (.type "tuple") (Ja X.K):=pG
end
structure JC(D D':Ends):Prop where
 nx: ∀ σ H,D.nx σ H->D'.nx σ H
 rt: ∀ v H,D.rt v H->D'.rt v H
 bk: ∀ σ H,D.bk σ H->D'.bk σ H
 ct: ∀ σ H,D.ct σ H->D'.ct σ H
class Tq (t:TS):Prop where
 m: ∀ D D' σ H,JC D D'->t D σ H->t D' σ H
class s9 (g:TG):Prop where
 m: ∀ x σ H Q Q',(∀ σ2 H2,Q σ2 H2->Q' σ2 H2)->g x σ H Q->g x σ H Q'
class Sn (g:Dl):Prop where
 m: ∀ x σ H Q Q',(∀ σ2 H2,Q σ2 H2->Q' σ2 H2)->g x σ H Q->g x σ H Q'
theorem Oq{K:UC}{a:U0}{xs:List V}{k:Nat}{g:TG}{tt:TT}{te:TE}[s9 g][sM tt][uN te]{σ :St}{H:Hp}{Q:VK}(Pv:Nat->List V->Hp->Prop)(h0:Pv 0 [] H)(hl: ∀ i ys H,i<=xs.length->Pv i ys H->dQ K H a xs/\ys.length<=i)(hz:xs.length<=UK)
  (hs: ∀ i x ys H,xs[i]?=fv x->Pv i ys H->g x (σ ++UN k UB) H fun σ2 H2=>tt σ2 H2 λb H3=>if b=true then te σ2 H3 λy H4=>Pv (i+1) (ys++[y]) H4 else Pv (i+1) ys H3)
  (hd: ∀ ys H,Pv xs.length ys H-> ∀ p,H p=UB->Q (.ref p) (upd H p (.lst ys))) :
  ∃ W:Nat->Nat->List V->Hp->Prop,(∃ m,W 0 m [] H)∧ ∀ i m ys H,W i m ys H->((Am K a).stop i H∧ ∀ p,H p=UB->Q (.ref p) (upd H p (.lst ys))) ∨
   ((Am K a).go i H∧ys.length < UK∧ ∀ x H',(Am K a).Hl i H x H'->g x (σ ++UN k UB) H' fun σ2 H2=>tt σ2 H2 λb H3=>if b=true then te σ2 H3 λy H4=> ∃ m',m' < m∧W (i+1) m' (ys++[y]) H4 else ∃ m',m' < m∧W (i+1) m' ys H3):=KN (K:=K) (a:=a) (k:=k) (g:=g) (tt:=tt) (te:=te) (σ := σ) (Q:=Q) Pv h0 hl hz hs hd (λx σ H Q Q' f h=>s9.m (g:=g) x σ H Q Q' f h) (sM.m (t:=tt)) (uN.m (t:=te))
noncomputable def stK(a:U0)(k:Int)(l:Option Int):List (Key × V):=match l with
 | none=>[(.inr "script",.ref a),(.inr "k",.int k)]
 | some l=>[(.inr "script",.ref a),(.inr "k",.int k),(.inr "left",.int l)]
def xh(K:UC)(H:Hp) a (xs:List V):=(∃ o,H a=fv (.jx o (.lst xs))) \/
 ∃(o:Obj)(aj:Array UH)(n:Nat),K.lookup a=fv o/\o.cls= .type "list" /\o.dict=UB/\o.data= .seq aj n/\aj.size<=UK/\Vals xs aj.toList
theorem xh.sq{K}(h:xh K H a xs):gB K H a xs:=by
 rcases h with⟨o,h⟩ | h
 . exact .inl (.inr ⟨o,h⟩)
 . exact .inr h
theorem xh.upd{K}(h:xh K H a xs)(hc:H c=fv u)(hu: ∀ o w,u≠ .jx o w):xh K (upd H c o') a xs:=by
 rcases h with⟨o,h⟩ | h
 . exact .inl ⟨o,by rw[ax (qj h hc λz=>hu _ _ z.symm)];exact h⟩
 . exact .inr h
theorem Kp.jx{st a H H' K xs kvs}(x:Kp st H H')(ha:H st=fv (.dK kvs))(h:xh K H a xs):xh K H' a xs:=by
 rcases h with⟨o,h⟩ | h
 . exact .inl ⟨o,x _ _ (qj h ha (by simp_all)) h⟩
 . exact .inr h
theorem l8.jx{a H H' K xs}(x:l8 H H')(h:xh K H a xs):xh K H' a xs:=by
 rcases h with⟨o,h⟩ | h
 . exact .inl ⟨o,x _ _ h⟩
 . exact .inr h
def jP(K:UC) H st k (l:Option Int):= ∃(a:U0)(ns:List Int),H st=fv (.dK (stK a k l))/\xh K H a (ns.map V.int)/\ns.length<=63/\0<=k
theorem jP.keep{K st}(x:jP K H st k l)(y:Kp st H H')(e:H' st=H st):jP K H' st k l :=
 by obtain⟨a,ns,h1,h2,h3,h4⟩:=x;exact⟨a,ns,e.trans h1,y.jx h1 h2,h3,h4⟩
theorem jP.same{K:UC}{H H':Hp}{st:U0}{k:Int}{l:Option Int}(x:jP K H st k l)(y:l8 H H'):jP K H' st k l :=
 let ⟨a,ns,h1,h2,h3,h4⟩:=x;jP.keep ⟨a,ns,h1,h2,h3,h4⟩ y.kp ((y _ _ h1).trans h1.symm)
theorem jP.upd{K st}(x:jP K H st k l)(hc:H c=fv u)(hu: ∀ o w,u≠ .jx o w)(hn:c≠st):jP K (upd H c o) st k l :=
 by obtain⟨a,ns,h1,h2,h3,h4⟩:=x;exact⟨a,ns,by rw[ax (W2 hn)];exact h1,h2.upd hc hu,h3,h4⟩
theorem jP.at{K st}(x:jP K H st k l): ∃ kvs,H st=fv (.dK kvs):=by obtain⟨a,ns,h1,_⟩:=x;exact⟨_,h1⟩
theorem jP.pos{K st}(x:jP K H st k l):0<=k:=by obtain⟨a,ns,h1,_,_,h⟩:=x;exact h
noncomputable def noStar:Vu->Bool
 | .Starred _ _=>false
 | _=>true
theorem ba(h:noStar e=true):Vk (e::es) env=(false,Wt e env)::Vk es env:=by
 cases e<;>first | rfl | cases h
theorem jQ: ∀{es},es.all noStar=true->(Yh pos (Vk es env)).any (·.1)=false
 | [],_=>rfl
 | e::es,h=>by
  have h:=aap.mp (XI ▸ h);rw[ba h.1];have:=jQ (pos:=pos) (env:=env) h.2;exact this
section
variable{X:Cx}{e:Vu}{es:List Vu}{te:TE}{t:TA}
theorem pk(ha:PE X e te)(hr:PA X es t)(hs:noStar e=true:=by rfl):PA X (e::es) (AO te t):=E1 ha hr (ba hs)
variable{x:Str}{k j:Nat}{ps:List Str}{sp:Sp}{p pos:Pos}{id T:String}{r:List V->Hp->VK->Prop}
theorem kd(D:lC X.prog X.w X.K X.mg X.base x j ps sp)(hr:cO k X.A)(hg:Gl X x)(hj:j<=k)(ha:PA X (e::es) t)(hdb:(x == ("__debug__"))=false:=by decide)(he:noStar e=true:=by rfl)(hpl:es.all noStar=true:=by rfl) :
  PE X (.Call (.Name x p) (e::es) [] pos) (ya sp [] E0 t):=RA D hr hg hj ha hdb (ba he) (jQ hpl)
theorem kB(hc:aM X (.builtin id) r)(hg:Gl X x)(hm:X.mg x=UB)(hv:VR x=fv (.builtin id))(ha:PA X (e::es) t)(hn:x≠ "__name__" :=by decide)(hdb:(x == ("__debug__"))=false:=by decide)(he:noStar e=true:=by rfl)(hpl:es.all noStar=true:=by rfl) :
  PE X (.Call (.Name x p) (e::es) [] pos) (HN r t):=Al hc hg hm hv ha hn hdb (ba he) (jQ hpl)
theorem kT(hc:aM X (.type T) r)(hg:Gl X x)(hm:X.mg x=UB)(hv:VR x=fv (.type T))(ha:PA X (e::es) t)(hn:x≠ "__name__" :=by decide)(hdb:(x == ("__debug__"))=false:=by decide)(he:noStar e=true:=by rfl)(hpl:es.all noStar=true:=by rfl) :
  PE X (.Call (.Name x p) (e::es) [] pos) (HN r t):=yZ hc hg hm hv ha hn hdb (ba he) (jQ hpl)
end
structure QE(X:Cx)(e:Vu)(t:TE):Prop where h:PE X e t
structure QT(X:Cx)(e:Vu)(t:TT):Prop where h:PT X e t
structure QW(X:Cx)(e:Vu)(t:TT):Prop where h:PW X e t
structure QA(X:Cx)(es:List Vu)(t:TA):Prop where h:PA X es t
structure QO(X:Cx)(e:Option Vu)(t:TO):Prop where h:PO X e t
structure QS(X:Cx)(s:Z8)(t:TS):Prop where h:PS X s t
structure Dm(X:Cx)(s:List Z8)(t:TS):Prop where h:vU X s t
structure QG(X:Cx)(e:Vu)(t:TG):Prop where h:PG X e t
structure Lo(X:Cx)(e:List Vu)(t:Dl):Prop where h:Oi X e t
structure QI(X:Cx)(tg e:Vu)(t:TI):Prop where h:PI X tg e t
structure QF(X:Cx)(es:List Vu)(t:TT):Prop where h:PF X es t
structure QP(X:Cx)(pos:Pos)(ks:List (Option Vu))(vs:List Vu)(t:List (TE × TE)):Prop where h:NT X pos ks vs t
section
variable{X:Cx}{a b c e o i:Vu}{es:List Vu}{ta tb tc te td ty tx tv to ti:TE}{t t':TT}{tr:TA}{pos p p2 pos' apos cpos:Pos}{x y:Str}
theorem qv i (hN:X.N[i]?=fv x:=by rfl) (hv:MV X.env.scope x:=by first | exact abq rfl | exact aaq (abq rfl) | exact aaq (aaq rfl)) (hd:(x == ("__debug__"))=false:=by decide)
  (hcd:(x == ("__classdict__"))=false:=by decide):QE X (.Name x pos) (OD i):=⟨Jl hN hv hd hcd⟩
theorem HG:QE X (.Constant (.int n) j pos) (tC (.int n)):=⟨Lf⟩
theorem Po:QE X (.Constant (.bool n) j pos) (tC (.bl n)):=⟨Pt⟩
theorem KC:QE X (.Constant .none j pos) (tC .non):=⟨Jn⟩
theorem Ka:QE X (.Constant (.str n) j pos) (tC (.str n)):=⟨K5⟩
theorem xQ(hg:Gl X x)(hm:X.mg x=fv u)(r:RelV v u)(hd:(x == ("__debug__"))=false:=by decide):QE X (.Name x pos) (tC v):=⟨yb hg hm r hd⟩
theorem Em(hg:Gl X x)(hm:X.mg x=UB)(hv:VR x=fv u)(r:RelV v u)(hn:x≠ "__name__" :=by decide)(hd:(x == ("__debug__"))=false:=by decide):QE X (.Name x pos) (tC v):=⟨Gk hg hm hv r hn hd⟩
theorem O9(ho:cC X (VX op) r)(ha:QE X a ta)(hb:QE X b tb):QE X (.BinOp a op b pos) (FZ r ta tb):=⟨NL ho ha.h hb.h⟩
theorem HW(ha:QE X a ta):QE X (.UnaryOp .Not a pos) (Hs ta):=⟨LH ha.h⟩
theorem LU(h:QE X a ta):QE X (.BoolOp op [a] pos) ta:=⟨Ls h.h⟩
theorem HP{rest}(ha:QE X a ta)(hb:QE X (.BoolOp .And (b::rest) pos) tb):QE X (.BoolOp .And (a::b::rest) pos) (Hh ta tb):=⟨Lv ha.h hb.h⟩
theorem NX{rest}(ha:QE X a ta)(hb:QE X (.BoolOp .Or (b::rest) pos) tb):QE X (.BoolOp .Or (a::b::rest) pos) (O2 ta tb):=⟨OV ha.h hb.h⟩
theorem CS(hc:QT X c t)(ha:QE X a ta)(hb:QE X b tb):QE X (.IfExp c a b pos) (SM t ta tb):=⟨Ay hc.h ha.h hb.h⟩
theorem Mp(h:QA X es tr):QE X (.Tuple es x1 pos) (Pp tr):=⟨K6 h.h⟩
theorem HU(h:QA X es tr):QE X (.List es pos) (Nm tr):=⟨IG h.h⟩
theorem FU:QP X pos [] [] []:=⟨EM⟩
theorem BN(hk:QE X k tk)(hv:QE X v tv)(hr:QP X pos ks vs trs):QP X pos (fv k::ks) (v::vs) ((tk,tv)::trs):=⟨Ar hk.h hv.h hr.h⟩
theorem Gf(h:QP X pos ks vs trs)(hall:ks.all (·.isSome)=true)(hl:ks.length=vs.length)(h0:ks≠[])(h15:ks.length<=15):QE X (.Dict ks vs pos) (G0 trs):=⟨D9 h.h hall hl h0 h15⟩
theorem Gz:QO X UB xN:=⟨F9⟩
theorem Fi(h:QE X e te):QO X (fv e) (Hd te):=⟨Dr h.h⟩
theorem Cr{lo}(hr:Dj X r)(he:QE X e te)(hl:QO X lo tl)(hu:QO X hi th):QE X (.Subscript e (.Slice lo hi UB p2) pos) (Tx r te tl th):=⟨Bm hr he.h hl.h hu.h⟩
theorem Pe(hr:yq X r)(ha:QE X a ta)(hb:QE X b tb)(hs:q9 b):QE X (.Subscript a b pos) (FZ r ta tb):=⟨N2 hr ha.h hb.h hs⟩
theorem CB(hu:X.A.units+1 < XD)(ho:QE X o td)(he:QE X e ty)(hf:QE X f tx)(m:M2 X o "get" apos e f cpos):QE X (.Call (.Attribute o "get" apos) [e,f] [] cpos) (Co td ty tx):=⟨Bg hu ho.h he.h hf.h m⟩
theorem vT:QA X [] Oy:=⟨Il⟩
theorem qk(ha:QE X e te)(hr:QA X es tr)(hs:noStar e=true:=by rfl):QA X (e::es) (AO te tr):=⟨pk ha.h hr.h hs⟩
variable{k j:Nat}{ps:List Str}{sp:Sp}{id T:String}{r:List V->Hp->VK->Prop}
theorem qd(D:lC X.prog X.w X.K X.mg X.base x j ps sp)(hr:cO k X.A)(hg:Gl X x)(hj:j<=k)(ha:QA X (e::es) tr)(hdb:(x == ("__debug__"))=false:=by decide)(he:noStar e=true:=by rfl)(hpl:es.all noStar=true:=by rfl) :
  QE X (.Call (.Name x p) (e::es) [] pos) (ya sp [] E0 tr):=⟨kd D hr hg hj ha.h hdb he hpl⟩
theorem qB(hc:aM X (.builtin id) r)(hg:Gl X x)(hm:X.mg x=UB)(hv:VR x=fv (.builtin id))(ha:QA X (e::es) tr)(hn:x≠ "__name__" :=by decide)(hdb:(x == ("__debug__"))=false:=by decide)(he:noStar e=true:=by rfl)(hpl:es.all noStar=true:=by rfl) :
  QE X (.Call (.Name x p) (e::es) [] pos) (HN r tr):=⟨kB hc hg hm hv ha.h hn hdb he hpl⟩
theorem qT(hc:aM X (.type T) r)(hg:Gl X x)(hm:X.mg x=UB)(hv:VR x=fv (.type T))(ha:QA X (e::es) tr)(hn:x≠ "__name__" :=by decide)(hdb:(x == ("__debug__"))=false:=by decide)(he:noStar e=true:=by rfl)(hpl:es.all noStar=true:=by rfl) :
  QE X (.Call (.Name x p) (e::es) [] pos) (HN r tr):=⟨kT hc hg hm hv ha.h hn hdb he hpl⟩
theorem Hn(pa:aaX T)(slot:Slot T name id)(hty:typeOf (.builtin id)=pure (.type "method_descriptor"))(hm:Di X id rm)(ho:QE X o to)(ha:QA X [e] tr)
  (hbase:Xj o name X.env (Wt o X.env)=Wt o X.env:=by rfl) (hline:(apos.endLine == cpos.line)=true:=by rfl) (hs:noStar e=true:=by rfl) :
  QE X (.Call (.Attribute o name apos) [e] [] cpos) (SD X.K T rm to tr):=⟨G5 pa slot hty hm ho.h ha.h hbase (by rw[ba hs];rfl) hline (ba hs) rfl⟩
theorem FC{r}(ho:cC X (Vf op) r)(ha:QE X a ta)(hb:QE X b tb)(hm:V1 op b=false):QE X (.Compare a [op] [b] pos) (FZ r ta tb):=⟨Dw ho ha.h hb.h hm⟩
theorem Fz{r}(ho:cC X (Vf op) r)(ha:QE X a ta)(hb:QE X b tb)(hm:V1 op b=false):QT X (.Compare a [op] [b] pos) (Bv (FZ r ta tb)):=⟨D1 ho ha.h hb.h hm⟩
theorem AA{r}(ho:cC X (Vf op) r)(ho':cC X (Vf op') r')(ha:QE X a ta)(hb:QE X b tb)(hc:QE X c tc)(hm:lastMarks [op,op'] [b,c]=false:=by with_unfolding_all rfl):QE X (.Compare a [op,op'] [b,c] pos) (vz r r' ta tb tc):=⟨Aq ho ho' ha.h hb.h hc.h hm⟩
theorem IH(ha:QE X a ta):QE X (.Compare a [.Is] [.Constant .none j pos'] pos) (JX ta):=⟨Ku (A1 ha.h)⟩
theorem H9(ha:QE X a ta):QT X (.Compare a [.Is] [.Constant .none j pos'] pos) (tB (JX ta)):=⟨Ci (A1 ha.h)⟩
theorem DX(ha:QE X a ta):QT X (.Compare a [.IsNot] [.Constant .none j pos'] pos) (tB (Hy ta)):=⟨Ci (FH ha.h)⟩
theorem Ea(ha:QT X a t):QW X (.BoolOp .And [a] pos) t:=⟨pw_and1 ha.h⟩
theorem HS(ha:QT X a t):QW X (.BoolOp .Or [a] pos) t:=⟨pw_or1 ha.h⟩
theorem Lj{rest}(ha:QT X a t)(hb:QW X (.BoolOp .And (b::rest) pos) t'):QW X (.BoolOp .And (a::b::rest) pos) (Qi t t'):=⟨pw_and ha.h hb.h⟩
theorem Oc{rest}(ha:QT X a t)(hb:QW X (.BoolOp .Or (b::rest) pos) t'):QW X (.BoolOp .Or (a::b::rest) pos) (T6 t t'):=⟨pw_or ha.h hb.h⟩
theorem QW.pt(h:QW X e t):QT X e t:=⟨h.h.pt⟩
theorem Mf(ha:QT X a t):QT X (.UnaryOp .Not a pos) (PN t):=⟨L5 ha.h⟩
theorem Iz(h:QE X e te)(he: ∀ whole,abl e X.env whole=(do let v <- whole;abR e.pos;Y9 [v] (truthy v)):=by intro _;rfl):QT X e (tB te):=⟨K9 h.h he⟩
theorem xV{i}(hN:X.N.Nodup)(hi:X.N[i]?=fv x)(hx:Loc X.env.scope x)(hf:X.fn x=true\/X.env.scope.names.lookup x=fv .local:=by first | exact .inl rfl | exact .inr rfl | assumption):QG X (.Name x pos) (eF i):=⟨Eb hN hi hx hf⟩
theorem xc:Lo X [] ze:=⟨FQ⟩
theorem tK{t}(h1:QG X e t)(h2:Lo X es u)(hs:(VM (e::es) X.env).map (·.2)=Yu e X.env::(VM es X.env).map (·.2):=by rfl):Lo X (e::es) (lD t u):=⟨C4 h1.h h2.h hs⟩
theorem AI{t}(hc:X.calm=true)(h:Lo X es t)(hn:(VM es X.env).length=n:=by rfl)(hst:(VM es X.env).findIdx? (·.1)=UB:=by rfl):QG X (.Tuple es k pos) (v9 X.K n t):=⟨LW hc h.h hn hst⟩
variable{tg iter l:Vu}{wi:TI}{g:TG}{ta':TA}
theorem LY:QF X [] GW:=⟨J6⟩
theorem LM(h:QT X c t):QF X [c] t:=⟨Li h.h⟩
variable{scope:Y7}{ifs:List Vu}{body rest:List Z8}{spos py:Pos}{tb' ts us:TS}{st:Z8}
theorem CL vars (hc:X.calm=true) (hx: ∀ v s,¬ X.xe v s) (hkind:scope.kind= .function) (hlc:gX scope.names X.env.scope.names X.N vars=true) (hi:QI X tg iter wi)
  (hb: ∀ cl C s₀ H₀ ex pn,QG (d7 X vars scope cl C s₀ H₀ ex pn) tg g/\QF (d7 X vars scope cl C s₀ H₀ ex pn) ifs t/\QE (d7 X vars scope cl C s₀ H₀ ex pn) e te) (hgk:GK X.N.length g)
  (hs: ∀ x,Vt iter X.env x=pure x:=by intro _;rfl):QE X (.ListComp e [⟨tg,iter,ifs,0⟩] scope pos) (Q2 vars.length wi g t te) :=
 ⟨Bn vars hc hx hkind hlc hi.h (λcl C s₀ H₀ ex pn=>by obtain⟨h1,h2,h3⟩:=hb cl C s₀ H₀ ex pn;exact⟨h1.h,h2.h,h3.h⟩) hgk hs⟩
theorem A9 vars i (hc:X.calm=true) (hx: ∀ v s,¬ X.xe v s) (hkind:scope.kind= .function) (hlc:gX scope.names X.env.scope.names X.N vars=true) (hN:X.N.Nodup) (hiy:X.N[i]?=fv y) (hy:Loc X.env.scope y) (hi:QI X tg iter wi)
  (hb: ∀ cl C s₀ H₀ ex pn,QG (d7 X vars scope cl C s₀ H₀ ex pn) tg g/\QF (d7 X vars scope cl C s₀ H₀ ex pn) ifs t/\QE (d7 X vars scope cl C s₀ H₀ ex pn) e te) (hgk:GK X.N.length g)
  (hsw:Xh (.ListComp e [⟨tg,iter,ifs,0⟩] scope pos) (fv (.Name y py)) spos.line X.env=pure true:=by rfl) (hs: ∀ x,Vt iter X.env x=pure x:=by intro _;rfl)
  (hf:X.fn y=true\/X.env.scope.names.lookup y=fv .local:=by first | exact .inl rfl | exact .inr rfl | assumption) :
  QS X (.Assign [.Name y py] (.ListComp e [⟨tg,iter,ifs,0⟩] scope pos) spos) (B9 vars.length i wi g t te) :=
 ⟨AU vars i hc hx hkind hlc hN hiy hy hi.h (λcl C s₀ H₀ ex pn=>by obtain⟨h1,h2,h3⟩:=hb cl C s₀ H₀ ex pn;exact⟨h1.h,h2.h,h3.h⟩) hgk hsw hs hf⟩
theorem Ju{i}(hN:X.N.Nodup)(hi:X.N[i]?=fv x)(hx:Loc X.env.scope x)(he:QE X e te)(hs:Xh e (fv (.Name x pos')) pos.line X.env=pure false:=by rfl)(hf:X.fn x=true\/X.env.scope.names.lookup x=fv .local:=by first | exact .inl rfl | exact .inr rfl | assumption) :
  QS X (.Assign [.Name x pos'] e pos) (EN te (eF i)):=⟨Ir hN hi hx he.h hs hf⟩
theorem BB(he:QE X e te)(hg:QG X tg g)(hs:Zi [tg] e pos.line X.env=pure false:=by rfl)(hw:Zj [tg] e X.env=pure UB:=by rfl)(h1:(VM [tg] X.env).map (·.2)=[Yu tg X.env]:=by rfl):QS X (.Assign [tg] e pos) (EN te g):=⟨Mc he.h hg.h hs hw h1⟩
theorem Nk(hc:QT X c t)(ha:Dm X A ts)(hb:Dm X B us):QS X (.If c A B pos) (Oe t ts us):=⟨NM hc.h ha.h hb.h⟩
theorem Kz(hp:PassesOwn (U8 X.prog X.w) X.A X.env X.xe)(hc:X.calm=true)(hi:QI X tg iter wi)(hg:QG X tg g)(hb:Dm X body tb')(hs: ∀ x,Vt iter X.env x=pure x:=by intro _;rfl):QS X (.For tg iter body [] pos) (OC wi g tb'):=⟨Ld hp hc hi.h hg.h hb.h hs⟩
theorem Eu(he:QE X e te)(hs:Xh e UB pos.line X.env=pure false:=by rfl):QS X (.Expr e pos) (G1 te):=⟨Gj he.h hs⟩
theorem KZ(he:QE X e te):QS X (.Return (fv e) pos) (NF te):=⟨Lc he.h⟩
theorem GF:Dm X [] Ax:=⟨DK⟩
theorem Bp(h1:QS X st ts)(h2:Dm X rest us):Dm X (st::rest) (Kv ts us):=⟨AE h1.h h2.h⟩
theorem E6(h1:QS X st ts):Dm X [st] ts:=⟨Fx h1.h⟩
end
theorem At.Ss{K st}(a:At K mg x st)(S:dZ N ps (az st))
  (hb: ∀ kV doc pm an cdv ct us,us.length=ps.length->XF (V2 x x (cA st) (bo st) (az st) .none kV doc pm an cdv ct) ⟨us,[]⟩=pure (ps.zip us))
  (len: ∀ vs H Q E,sp vs H Q E->vs.length=ps.length)
  (hbody: ∀ f cdv A outer s H vs Q E,cO k (A.deeper (YT x (az st) s.heap.objs.size f cdv))->sp vs H Q E ->
   ∃ t,Dm (jZ uQ P w K mg base N x (az st) f cdv A outer s H E).sC (bo st) t/\t { nx:=λ_ H'=>Q .non H',rt:=Q} (start N vs) H):lC P w K mg base x (k+1) ps sp :=
 a.ok S hb len λf cdv A outer s H vs Q E hr h=>by obtain⟨t,q,z⟩:=hbody f cdv A outer s H vs Q E hr h;exact⟨t,q.h,z⟩
theorem nu(h:0<=r):lS xs (fv r) UB=xs.drop r.toNat:=by
 have e:r=((r.toNat)):=by omega
 unfold lS;rw[e,HT.iP,HT.kl];simp only[VD];rcases YH r.toNat xs.length with z | z
 . grind
 . rw[Xt z,Wi z];simp
theorem nc(h:0<=r):lS xs UB (fv r)=xs.take r.toNat:=by
 have e:r=((r.toNat)):=by omega
 unfold lS;rw[e,HT.iP,HT.kl];simp only[VD,aar,abe];rcases YH r.toNat xs.length with z | z
 . rw[XU z]
 . rw[Xt z,VW (UL _),VW z]
theorem Uj{ B:Prop}[Decidable c](hc: ¬ c)(h:B):if c then A else B:=by simp_all
def TY k (g:TG) (tt:TT) (te:TE) (σ :St) (Q:VK) (J:It) H1:= ∃ W:Nat->Nat->List V->Hp->Prop,(∃ m,W 0 m [] H1)/\ ∀ i m ys H,W i m ys H ->
 (J.stop i H/\ ∀ p,H p=UB->Q (.ref p) (upd H p (.lst ys))) \/
 (J.go i H/\ys.length < UK/\ ∀ x H',J.Hl i H x H'->g x (σ ++UN k UB) H' fun σ2 H2=>tt σ2 H2 λb H3 =>
  if b=true then te σ2 H3 λy H4=> ∃ m',m' < m/\W (i+1) m' (ys++[y]) H4 else ∃ m',m' < m/\W (i+1) m' ys H3)
theorem OB{K:UC}{a:U0}{xs:List V}{k:Nat}{g:TG}{tt:TT}{te:TE}[s9 g][sM tt][uN te]{σ :St}{H:Hp}{Q:VK}(Pv:Nat->List V->Hp->Prop)(h0:Pv 0 [] H)(hl: ∀ i ys H,i<=xs.length->Pv i ys H->dQ K H a xs/\ys.length<=i)(hz:xs.length<=UK)
  (hs: ∀ i x ys H,xs[i]?=fv x->Pv i ys H->g x (σ ++UN k UB) H fun σ2 H2=>tt σ2 H2 λb H3=>if b=true then te σ2 H3 λy H4=>Pv (i+1) (ys++[y]) H4 else Pv (i+1) ys H3)
  (hd: ∀ ys H,Pv xs.length ys H-> ∀ p,H p=UB->Q (.ref p) (upd H p (.lst ys))):TY k g tt te σ Q (Am K a) H:=Oq Pv h0 hl hz hs hd
class Sq (trs:List (TE × TE)):Prop where
 m: ∀ σ H Q Q',(∀ ps H1,Q ps H1->Q' ps H1)->kH trs σ H Q->kH trs σ H Q'
theorem zU.Ss{K st}(F:zU K x x st f fd)(S:dZ N ps (az st))(len: ∀ vs H Q E,sp vs H Q E->vs.length=ps.length)
  (hbody: ∀ f cdv A outer s H vs Q E,cO k (A.deeper (YT x (az st) s.heap.objs.size f cdv))->sp vs H Q E ->
   ∃ t,Dm (jZ uQ P w K mg base N x (az st) f cdv A outer s H E).sC (bo st) t/\t { nx:=λ_ H'=>Q .non H',rt:=Q} (start N vs) H):j4 P w K mg base uQ (k+1) f fd ps sp :=
 F.ok S len λcdv A outer s H vs Q E hr h=>by obtain⟨t,q,z⟩:=hbody f cdv A outer s H vs Q E hr h;exact⟨t,q.h,z⟩
theorem IS{K}(o:BD H)(h:gB K H a xs):xh K H a xs:=by
 rcases h with(h | ⟨u,h⟩) | h
 . rcases o a with z | ⟨u,ys,z⟩<;>(rw[h] at z;cases z)
 . exact .inl ⟨u,h⟩
 . exact .inr h
def KD(P:Vl)(w:VE)(K:UC) a (kvs:List (Key × V)):=(a == VP)=false /\
 ∃(o:Obj)(es:Array DictEntry)(ep:Nat)(vs:List (Key × UH)),K.lookup a=fv o/\o.ExactDict/\o.data= .dict es ep/\PySem.KeysOf (aJ P w) es/\Pairs (aJ P w) es.toList vs/\(vs.map (·.1)).Nodup/\KV kvs vs
theorem Inv.kd{σ :St}(I:Inv X pins σ H s)(h:KD X.prog X.w X.K a kvs): ∃ vs,KV kvs vs/\s.heap.DictOf (aJ X.prog X.w) a vs:=by
 obtain⟨_,o,es,ep,vs,h1,h2,h3,h4,h5,h6,h7⟩:=h;exact⟨vs,h7,o,es,ep,I.ky a o h1,h2,h3,h4,h5,h6⟩
def Hz(kvs:List (Key × V))(ty:TE):TE:=fun σ H Q=>ty σ H λy H2=> ∃ k v,y=kV k/\gj kvs k=fv v/\Q v H2
section
variable{X:Cx}{o i:Vu}{pos:Pos}{ty:TE}{a:U0}{kvs:List (Key × V)}
theorem E2(hk:KD X.prog X.w X.K a kvs)(ho:PE X o (tC (.ref a)))(hi:PE X i ty)(hs:GI i):PE X (.Subscript o i pos) (Hz kvs ty):=by
 intro pins s σ H Q I h;refine Fm Y5.lookup hs (gZ (ho pins s σ H (λx H1=>x= .ref a/\H1=H) I ⟨rfl,rfl⟩) λu s1 x H1 I1 rx ⟨ex,eH⟩=>?_);subst ex eH;obtain rfl:u=U6 a:=rx;refine gZ (hi pins s1 σ H1 _ I1 h) λiv s2 y H2 I2 ry ⟨k,v,ey,l,q2⟩=>?_;subst ey;obtain⟨vs,rel,dd⟩:=I2.kd hk;obtain⟨w',hw,rw'⟩:=kb.some_of (v:=v) (o:=ZT vs k) (by rw[<- l];exact rel.val k);exact⟨dd.typeIs,wpAny_getItem_of (jN ry) dd.mapOf hw ⟨v,H2,I2.tok _,rw',q2⟩⟩
theorem DF(hk:KD X.prog X.w X.K a kvs)(ho:QE X o (tC (.ref a)))(hi:QE X i ty)(hs:GI i):QE X (.Subscript o i pos) (Hz kvs ty):=⟨E2 hk ho.h hi.h hs⟩
end
noncomputable def NN(w:VE)(p:Str × Tok × UH):DictEntry:={ hash:=Ve w.params p.1,key:= .str p.1 p.2.1,val:=p.2.2}
theorem O4{K}{ls:List (Str × Tok × UH)}{kvs:List (Key × V)}(hl:K.lookup a=fv { cls:= .type "dict",data:= .dict (ls.map (NN w)).toArray ep})(ha:(a == VP)=false)
  (hn:(ls.map λp=>(VY p.1:Key)).Nodup) (hk:KV kvs (ls.map λp=>((VY p.1),p.2.2))):KD P w K a kvs:=by
 refine⟨ha,_,_,ep,ls.map λp=>((VY p.1),p.2.2),hl,⟨rfl,rfl,rfl⟩,rfl,?_,?_,by rw[Wj];exact hn,hk⟩
 . intro e he;have he':=abr.mp he;obtain⟨p,_,rfl⟩:=Vg.mp he';exact⟨.inr p.1,lb p.1 p.2.1,rfl⟩
 . clear hl hn hk
   induction ls with
   | nil=>exact .nil
   | cons p r ih=>exact .cons (lb p.1 p.2.1) rfl ih
section
variable{X:Cx}
def Si(K:UC):List V->Hp->VK->Prop:=λxs H Q=> ∃(p:U0)(ns:List Int),xs=[.ref p]/\gB K H p (ns.map V.int)/\Q (.int ns.sum) H
theorem Dv(hc:X.calm=true):aM X (.builtin "sum") (Si X.K):=by
 intro pins s σ H xs us Q I r h;obtain⟨p,ns,rfl,hS,q⟩:=h;obtain⟨u,rfl,ru⟩:=vals1 r;cases(show u=U6 p from ru);obtain⟨aj,hv,pl,hz⟩:=I.list hS;obtain⟨m,F⟩:=I.fr;have hi:=intsAre_of hv;obtain⟨ys,hx⟩:=hi.allInts.items;have hl':s.heap.IsList p (intItems ys):=hx ▸ pl.isList;refine sum_intListG (I.ok.hd hc) hl' λh' tk t' hk=>?_;have e1:ns=ys.toList.map (·.1):=by
  rw[<- nums_intItems,<- hx];exact(show numsOf aj.toArray.toList=ns from hi.numsOf).symm
 rw[show preSum (numAt ys) ys.size=ns.sum by rw[preSum_eq,VW (by simp),e1]];exact⟨.int ns.sum,H,I.kept hk,⟨_,rfl⟩,q⟩
end
noncomputable def Q1(x:Str):It:=⟨λi _=>i < x.cps.size,λi H v H'=>H'=H∧ ∃ c,x.cps[i]?=fv c∧v= .str ⟨#[c]⟩,λi _=>i=x.cps.size⟩
theorem uG{K} x t it (hty:["enumerate", "zip", "dict_itemiterator", "dict_reverseitemiterator", "odict_iterator", "itertools.zip_longest", "itertools.pairwise"].contains ty=false)
  (W: ∀ A ,A.handled=UB->Walks P w A it [it] [it] x.cps.size (SignAt x) (λi h=>h.IsStrIter it ty x t i)) (S: ∀ A i s Q E,s.heap.IsStrIter it ty x t i->Q (.ref it) s->U2 (U8 P w) A (abn (.ref it)) Q E s) :
  Turn P w K tg (Q1 x) [it] it (λi h=>h.IsStrIter it ty x t i) where
 mem:=by simp
 obj:=λi h st b hb=>by
  have e:b=it:=by simpa using hb
  subst e;obtain⟨o,e,c,d⟩:=st;exact⟨o,e,λv z=>by simp_all⟩
 keep:=λi h h' st k=>by obtain⟨o,e,r⟩:=st;exact⟨o,k it (by simp) o e,r⟩
 item:=by
  intro X hP hw hK hc i pins s σ H E I hf st hg;subst hP hw hK;obtain⟨f0,f1,f2,f3,f4,f5⟩:=hf it (by simp);refine(W X.A (I.ok.hd hc)).item i s _ _ hg st λv h' tk hv st' hk=>?_;obtain⟨c,u,hx,rfl⟩:=hv;have I1:=I.turned (t':=tk) (λb o hb e=>hk b o (by simpa using hb) e) f0 f1 f3 f4 f5;obtain⟨o,e,cc,d⟩:=id st';exact⟨_,rfl,xi (s:={ s with heap:=h',toks:=tk}) e cc d hty ⟨.str ⟨#[c]⟩,H,I1,⟨_,rfl⟩,⟨rfl,c,hx,rfl⟩,st',λb hb=>(hf b hb).1⟩⟩
 done:=by
  intro X hP hw hK hc i pins s σ H E I hf st hg;subst hP hw hK;obtain⟨f0,f1,f2,f3,f4,f5⟩:=hf it (by simp);have hi:=hg;subst hi;exact(W X.A (I.ok.hd hc)).done s _ _ st λh' tk hk=>⟨rfl,I.turned (t':=tk) (λb o hb e=>hk b o (by simpa using hb) e) f0 f1 f3 f4 f5⟩
 self:=λA i s Q E st h=>S A i s Q E st h
theorem ia{x:Str}{k:Nat}{g:TG}{tt:TT}{te:TE}[s9 g][sM tt][uN te]{σ :St}{H:Hp}{Q:VK}(Pv:Nat->List V->Hp->Prop)(h0:Pv 0 [] H)(hl: ∀ i ys H,i<=x.cps.size->Pv i ys H->ys.length<=i)(hz:x.cps.size<=UK)
  (hs: ∀ i c ys H,x.cps[i]?=fv c->Pv i ys H->g (.str ⟨#[c]⟩) (σ ++UN k UB) H fun σ2 H2=>tt σ2 H2 λb H3=>if b=true then te σ2 H3 λy H4=>Pv (i+1) (ys++[y]) H4 else Pv (i+1) ys H3)
  (hd: ∀ ys H,Pv x.cps.size ys H-> ∀ p,H p=UB->Q (.ref p) (upd H p (.lst ys))):TY k g tt te σ Q (Q1 x) H:=by
 refine⟨λi m ys H=>m=x.cps.size - i/\i<=x.cps.size/\Pv i ys H,⟨x.cps.size,by simp,Vw _,h0⟩,?_⟩;rintro i m ys H ⟨rfl,hi,p⟩;have hy:=hl i ys H hi p;by_cases hlt:i < x.cps.size
 . refine .inr ⟨hlt,by omega,λv H' y=>?_⟩;obtain⟨e,c,hc,rfl⟩:=y;subst e;refine s9.m (g:=g) _ _ _ _ _ (fun σ2 H2 z=>sM.m (t:=tt) _ _ _ _ (λb H3 z=>?_) z) (hs i c ys _ hc p);cases b with
   | true =>
    exact uN.m (t:=te) _ _ _ _ (λv H4 w=>⟨x.cps.size - (i+1),by omega,rfl,hlt,w⟩) z
   | false =>
    exact⟨x.cps.size - (i+1),by omega,rfl,hlt,z⟩
 . have e:i=x.cps.size:=by omega
   subst e;exact .inl ⟨rfl,hd ys H p⟩
theorem Fc(hg:Gl X x)(hm:X.mg x=fv (.ref a))(hd:(x == ("__debug__"))=false:=by decide):QE X (.Name x pos) (tC (.ref a)):=⟨yb hg hm rfl hd⟩
theorem oV l o b u :
  abG (XT.«dict.__eq__» ⟨[.ref l,.str b u],[]⟩) (λ_ R s=>s.heap.get? l=fv o/\R (.ok (.ret .notImplemented)) s) :=
 .of_wp λprog w A R s h=>by
  obtain⟨hl,h⟩:=h;have f1:=aas;wp_walk;exact⟨_,rfl,h⟩
theorem rD b u l c es ep dd sl :
  abG (XT.«str.__eq__» ⟨[.str b u,.ref l],[]⟩) (λ_ R s=>s.heap.get? l=fv { cls:=c,dict:=dd,data:= .dict es ep,slots:=sl}/\R (.ok (.ret .notImplemented)) s) :=
 .of_wp λprog w A R s h=>by obtain⟨hl,h⟩:=h;wp_walk using VL hl,Xn hl;exact⟨_,rfl,h⟩
theorem uf b u (hl:s.heap.get? l=fv o) (hx:o.ExactDict) (hd:o.data= .dict es ep) (hu:A.units < XD):SeqAt.RcAt A s (.ref l) (.str b u) false:=λprog w E Q h=>by
 obtain⟨cls,dd,data,sl⟩:=o;have hc:=hx.1;subst hc hd;exact SeqAt.rc_eq_decline_or (k:=false) ⟨_,hl,rfl⟩ (aaV s b u) (by decide) aas aat Zp
  (λ_ hq=>WA aat ⟨_,hl,rfl⟩ PySem.F.entry_dict_eq (PySem.F.args_dict_eq_2 _ _) (oV l _ b u) ⟨hl,hq⟩)
  (λ_ hq=>WA Zp (aaV s b u) PySem.F.entry_str_eq (PySem.F.args_str_eq_2 _ _) (rD b u l (.type "dict") es ep dd sl) ⟨hl,hq⟩)
  (λ_ z=>wpAny_of_eq (show isSame (.ref l) (.str b u)=pure false from rfl) z) (.inr hu) h
noncomputable def O1(K:UC):R2:=λx y H Q=> ∃ p z,x= .ref p/\y= .str z/\((∃ xs,gB K H p xs)\/(∃ xs,dQ K H p xs)\/ ∃ kvs,H p=fv (.dK kvs))/\Q (.bl false) H
def PM(K:UC):V->Option Int->Option Int->Hp->VK->Prop:=λx lo hi H Q=> ∃ a xs,x= .ref a/\dQ K H a xs/\(HT.c8 xs.length 0 lo=0/\HT.c8 xs.length xs.length hi=xs.length)/\Q (.ref a) H
noncomputable def GX(K:UC):R2:=λx y H Q=> ∃ a b ys,x= .ref a/\y= .ref b/\dQ K H a []/\dQ K H b ys/\Q (.ref b) H
noncomputable def HB:R2:=λx y H Q=> ∃ a b,x= .str a/\y= .str b/\a.length+b.length<=UK/\Q (.str (a++b)) H
theorem k0:fillsNumberSlot (.type "tuple") "mul" =pure false :=
 PySem.fillsNumberSlot_seq (id:= "tuple.__mul__") (r:=fv (.builtin "tuple.__rmul__")) WE.lookup (by rfl) ZD.lookup (by rfl)
theorem qM:seqRepeat? (.type "tuple")=pure (fv (.builtin "tuple.__mul__")):=by
 unfold seqRepeat?;rw[abt (T:= "tuple") (name:= "__mul__") (id:= "tuple.__mul__") WE.lookup (by rfl),abt (T:= "tuple") (name:= "__rmul__") (id:= "tuple.__rmul__") ZD.lookup (by rfl)];rfl
theorem nB a t l items n dd sl :
  abG (XT.«int.__rmul__» ⟨[.int a t,.ref l],[]⟩) (λ_ R s=>s.heap.get? l=fv { cls:= .type "tuple",dict:=dd,data:= .seq items n,slots:=sl}/\R (.ok (.ret Value.notImplemented)) s) :=
 .of_wp λprog w A R s h=>by obtain⟨hl,h⟩:=h;wp_walk using VL hl,Xn hl;exact⟨_,rfl,h⟩
theorem oY{prog:Vl}{w:VE}{A:Wf}{E:UH->UM->Prop}{s:UM}{t sl:U0}{items:Array UH}{vl vu:UH}{lo hi:Option Int}{Q:UH->UM->Prop}(ht:IsTup s.heap t items)(hs:s.heap.IsSliceOf sl vl vu .none)(pl:ZN vl lo)(pu:ZN vu hi)
  (hw:HT.c8 items.size 0 lo=0/\HT.c8 items.size items.size hi=items.size) (h:Q (.ref t) s):U2 (U8 prog w) A (YE (.ref t) (.ref sl)) Q E s:=by
 obtain⟨os,hos,hcs,hds⟩:=id hs;have hTs:s.TypeIs (.ref sl) "slice" :=⟨os,hos,hcs⟩
 unfold YE
 try with_reducible refine Wg ?_
 refine UA (wpAny_sequenceKey ht.typeIs (by decide) ?_);refine UA (Wb (name:=UI "__getitem__") ht.typeIs Vv
  (Wq Vv ht.typeIs aaF ?_ (aaU _ _)))
 show U2 _ _ (YU (.ref t) >>= _) _ _ s;refine UA (tupleItemsOf_ ht ?_);refine UA (Xr hTs ?_);refine UA (HT.gp hs pl pu ?_);show U2 _ _ (if (((HT.c8 items.size 0 lo):Int) == 0&&(1) == 1&&(HT.c8 items.size items.size hi - HT.c8 items.size 0 lo) == items.size)=true then _ else _) _ _ s;rw[if_pos (by simp_all)];refine UA (m:=Builtin.Tuple.tupleIsExact _) (UA (Xr ht.typeIs (UO ?_)));exact UA (ZW (UO ⟨_,rfl,UO h⟩))
section
variable{X:Cx}
theorem Ek(hu:X.A.units < XD):cC X (Vf .Eq) (O1 X.K):=by
 intro pins s σ H x y v u Q I rx ry h;obtain⟨p,z,rfl,rfl,hp,hQ⟩:=h;cases(show v=U6 p from rx);obtain⟨t,rfl⟩:=ry;have fin:EP X pins σ Q (.bool false) s:=⟨.bl false,H,I,rfl,hQ⟩
 rcases hp with⟨xs,hp⟩ | ⟨xs,hp⟩ | ⟨kvs,hp⟩
 . obtain⟨aj,hv,pl,hz⟩:=I.list hp;exact SeqAt.RcAt.list_str z t pl.isList hu _ _ _ _ fin
 . obtain⟨aj,hv,pl,hz⟩:=I.tuple hp;exact SeqAt.RcAt.tuple_str z t pl hu _ _ _ _ fin
 . obtain⟨_,_,vs,_,o,es,ep,e,hx,hd,_⟩:=tu I.bb hp;exact uf z t e hx hd hu _ _ _ _ fin
theorem DH:Dj X (PM X.K):=by
 intro pins s σ H x v vl vu lo hi sl Q I rx hs pl pu h;obtain⟨a,xs,rfl,hx,hw,q⟩:=h;cases rx;obtain⟨aj,r,ht,hz⟩:=I.tuple hx;have hlen:aj.toArray.size=xs.length:=by exact r.length.symm
 refine⟨"tuple",_,Vv.lookup,ht.typeIs,?_⟩;exact oY ht hs pl pu (by rw[hlen];exact hw) ⟨.ref a,H,I,rfl,q⟩
theorem Ed:cC X (VX .Add) (GX X.K):=by
 intro pins s σ H x y v u Q I rx ry h;obtain⟨a,b,ys,rfl,rfl,ha,hb,q⟩:=h;cases(show v=U6 a from rx);cases(show u=U6 b from ry);obtain⟨aj,r1,p1,_⟩:=I.tuple ha;obtain⟨its2,r2,p2,_⟩:=I.tuple hb;have e1:aj=[]:=by cases r1;rfl
 subst e1;obtain⟨⟨cls,dd,data,sl⟩,ho,hc,n,hd⟩:=id p1;obtain⟨⟨cls2,dd2,data2,sl2⟩,ho2,hc2,n2,hd2⟩:=id p2;simp only at hc hd hc2 hd2;subst hc hd hc2 hd2;exact aa5 ⟨_,ho,rfl⟩ ⟨_,ho2,rfl⟩ Zx aaO X7 X0 (XH _ _)
  (tuple_addW0 a b _ _ n n2 dd dd2 sl sl2 rfl) ⟨ho,ho2,⟨.ref b,H,I,rfl,q⟩⟩
theorem GR:cC X (VX .Add) HB:=by
 intro pins s σ H x y v u Q I rx ry h;obtain⟨a,b,rfl,rfl,hz,q⟩:=h;obtain⟨t,rfl⟩:=rx;obtain⟨t',rfl⟩:=ry;exact PyProof.Rows.add_str (λt' tk=>⟨.str (a++b),H,I.tok _,⟨_,rfl⟩,q⟩) hz
theorem Lp:cC X (VX .Add) (λx y H Q=>(Fq λi j=> .int (i+j)) x y H Q\/(ON x y H Q\/(Hc X.K x y H Q\/(GX X.K x y H Q\/HB x y H Q)))):=KI.or (HR.or (Fs.or (Ed.or GR)))
theorem Uw:Dj X (λx lo hi H Q=>Pc X.K x lo hi H Q\/(NI X.K x lo hi H Q\/PM X.K x lo hi H Q)):=DR.or (MJ.or DH)
end
noncomputable def xT{α}(c:Nat->Nat->Bool):KasT α -> α
 | .ret a=>a
 | .ask i j k=>xT c (k (c i j))
noncomputable def Cw{α}(n:Nat)(c:Nat->Nat->Bool):KasT α ->Bool
 | .ret _=>true
 | .ask i j k=>decide (i < n)&&decide (j < n)&& !decide (i=j)&&Cw n c (k (c i j))
theorem sP{α :Type}{cmp:Nat->Nat->(Bool->UM->Prop)->UM->Prop}{n:Nat}{c:Nat->Nat->Bool}{s:UM}(hc: ∀ i j C,i < n->j < n->i≠j->C (c i j) s->cmp i j C s){Q: α ->UM->Prop} :
  ∀ t:KasT α,Cw n c t=true->Q (xT c t) s->t.kasWp cmp Q s
 | .ret a,_,q=>q
 | .ask i j k,h,q=>by
  simp only[Cw,U3,decide_eq_true_eq,WS,decide_eq_false_iff_not] at h;exact hc i j _ h.1.1.1 h.1.1.2 h.1.2 (sP hc (k (c i j)) h.2 q)
def fT{α} n (c:Nat->Nat->Bool) (t:KasT α) (Q: α ->Prop):=Cw n c t=true/\Q (xT c t)
theorem fT.ret{α :Type}{n:Nat}{c:Nat->Nat->Bool}{a: α}{Q: α ->Prop}(h:Q a):fT n c (.ret a) Q:=⟨rfl,h⟩
theorem fT.ask{α :Type}{n:Nat}{c:Nat->Nat->Bool}{i j:Nat}{k:Bool->KasT α}{Q: α ->Prop}(hi:i < n)(hj:j < n)(hij:i≠j)(h:fT n c (k (c i j)) Q):fT n c (.ask i j k) Q :=
 ⟨by simp only[Cw,hi,hj,hij,h.1,decide_true,decide_false,Bool.not_false,XJ],h.2⟩
theorem fT.bind: ∀{t},fT n c t (λa=>fT n c (f a) Q)->fT n c (t.bind f) Q
 | .ret a,h=>h.2
 | .ask i j k,h=>by
  have e:=h.1;simp only[Cw,U3,decide_eq_true_eq,WS,decide_eq_false_iff_not] at e;exact fT.ask e.1.1.1 e.1.1.2 e.1.2 (fT.bind (t:=k (c i j)) ⟨e.2,h.2⟩)
theorem fT.mono(h:fT n c t Q)(f: ∀ a,Q a->Q' a):fT n c t Q':=⟨h.1,f _ h.2⟩
structure fu(n:Nat)(p:Array Nat):Prop where
 perm:p.toList.Perm (Vq n)
theorem fu.size(h:fu n p):p.size=n:=by simpa using h.perm.length_eq
theorem fu.lt(h:fu n p)(hi:i < n):p.getD i 0 < n:=by
 have hi':=h.size ▸ hi;have:p.getD i 0∈p.toList:=by
  simp_all
 exact W4.mp (h.perm.mem_iff.mp this)
theorem fu.ne(h:fu n p)(hi:i < n)(hj:j < n)(hij:i≠j):p.getD i 0≠p.getD j 0:=λe=>by
 have hi':=h.size ▸ hi;have hj':=h.size ▸ hj;have nd:=h.perm.nodup_iff.mpr List.nodup_range;rw[VA,VA,Wo hi',Wo hj'] at e;exact hij ((Zf (by omega) nd).mp (by simp_all))
theorem fu.of(h:fu n p)(pm:q.Perm p):fu n q:=⟨(Array.perm_iff_toList_perm.mp pm).trans h.perm⟩
theorem vo n:fu n (List.toArray (Vq n)):=⟨abY _⟩
section
variable{n:Nat}{r:Nat->Nat}
noncomputable def rk(r:Nat->Nat)(p:Array Nat) i:=r (p.getD i 0)
def pJ(r:Nat->Nat)(p:Array Nat) k:= ∀ i j,i < j->j < k->rk r p i < rk r p j
def mM(r:Nat->Nat)(p:Array Nat) k:= ∀ i j,i < j->j < k->rk r p j < rk r p i
noncomputable def cN(r:Nat->Nat) i j:=decide (r i < r j)
def qG n (r:Nat->Nat):= ∀ i j,i < n->j < n->r i=r j->i=j
theorem B4(hr:qG n r)(h:fu n p)(hi:i < n)(hj:j < n)(hij:i≠j):rk r p i≠rk r p j:=λe=>h.ne hi hj hij (hr _ _ (h.lt hi) (h.lt hj) e)
theorem F8(h:pJ r p k)(hk:1<=k)(x:rk r p (k - 1) < rk r p k):pJ r p (k+1):=λi j hij hj=>by
 rcases Wu j k with c | c
 . exact h i j hij c
 . have:j=k:=by omega
   subst this;rcases Wu i (j - 1) with d | d
   . exact YF (h i (j - 1) d (by omega)) x
   . grind
theorem qu(h:mM r p k)(hk:1<=k)(x:rk r p k < rk r p (k - 1)):mM r p (k+1):=λi j hij hj=>by
 rcases Wu j k with c | c
 . exact h i j hij c
 . have:j=k:=by omega
   subst this;rcases Wu i (j - 1) with d | d
   . exact YF x (h i (j - 1) d (by omega))
   . grind
theorem vA(hr:qG n r)(h:fu n p): ∀ f m,1<=m->m+f<=n->pJ r p m ->
  fT n (cN r) (kas_asc p f m) λm'=>m<=m'/\m'<=m+f/\pJ r p m'/\(m' < m+f->rk r p m' < rk r p (m' - 1))
 | 0,m,h1,hm,u=>fT.ret ⟨UL _,UL _,u,λx=>absurd x (Vr _)⟩
 | f+1,m,h1,hm,u=>by
  refine fT.ask (h.lt (by omega)) (h.lt (by omega)) (h.ne (by omega) (by omega) (by omega)) ?_;have ne:=B4 hr h (i:=m) (j:=m - 1) (by omega) (by omega) (by omega);by_cases c:rk r p m < rk r p (m - 1)
  . have e:cN r (p.getD m 0) (p.getD (m - 1) 0)=true:=decide_eq_true c;rw[e];exact fT.ret ⟨UL _,by omega,u,λ_=>c⟩
  . have e:cN r (p.getD m 0) (p.getD (m - 1) 0)=false:=decide_eq_false c;rw[e];refine(vA hr h f (m+1) (by omega) (by omega) (F8 u h1 (by omega))).mono λm' x=>⟨by omega,by omega,x.2.2.1,λy=>x.2.2.2 (by omega)⟩
theorem xK(hr:qG n r)(h:fu n p): ∀ f m,1<=m->m+f<=n->mM r p m ->
  fT n (cN r) (kas_desc f p m 0) λt=>t.1=p/\t.2.2=0/\m<=t.2.1/\t.2.1<=m+f/\mM r p t.2.1
 | 0,m,h1,hm,u=>fT.ret ⟨rfl,rfl,UL _,UL _,u⟩
 | f+1,m,h1,hm,u=>by
  refine fT.ask (h.lt (by omega)) (h.lt (by omega)) (h.ne (by omega) (by omega) (by omega)) ?_;have ne:=B4 hr h (i:=m) (j:=m - 1) (by omega) (by omega) (by omega);by_cases c:rk r p m < rk r p (m - 1)
  . have e:cN r (p.getD m 0) (p.getD (m - 1) 0)=true:=decide_eq_true c;rw[e,if_pos rfl];refine(xK hr h f (m+1) (by omega) (by omega) (qu u h1 c)).mono λt x=>⟨x.1,x.2.1,by omega,by omega,x.2.2.2.2⟩
  . have e:cN r (p.getD m 0) (p.getD (m - 1) 0)=false:=decide_eq_false c;rw[e];refine fT.ask (h.lt (by omega)) (h.lt (by omega)) (h.ne (by omega) (by omega) (by omega)) ?_;have e2:cN r (p.getD (m - 1) 0) (p.getD m 0)=true:=decide_eq_true (show rk r p (m - 1) < rk r p m by omega);rw[e2];exact fT.ret ⟨rfl,rfl,UL _,Nat.le_add_right _ _,u⟩
theorem C3(hm:m<=p.size) k:rk r (kas_rev p 0 m) k=if k < m then rk r p (m - 1 - k) else rk r p k:=by
 unfold rk kas_rev;rw[VA,getElem?_mirror_all hm];by_cases c:k < m
 . simp_all
 . rw[if_neg (λx=>c x.2),if_neg c,VA]
theorem Ak(hr:qG n r)(h:fu n p)(h1:1<=m)(hm:m<=n)(u:mM r p m):fT n (cN r) (kas_tail3 m n p) λt=>fu n t.2/\1<=t.1/\t.1<=n/\pJ r t.2 t.1:=by
 have h':fu n (kas_rev p 0 m):=h.of (mirror_perm _ _ _ _);refine fT.bind ((vA hr h' (n - m) m h1 (by omega) λi j hij hj=>?_).mono λm' x=>fT.ret ⟨h',by omega,by omega,x.2.2.1⟩);rw[C3 (by rw[h.size];exact hm),C3 (by rw[h.size];exact hm),if_pos (by omega),if_pos hj];exact u _ _ (by omega) (by omega)
theorem Bx(hr:qG n r)(h:fu n p)(h1:1<=n):fT n (cN r) (kas_count n p) λt=>fu n t.2/\1<=t.1/\t.1<=n/\pJ r t.2 t.1:=by
 refine fT.bind ((vA hr h (n - 1) 1 (UL _) (by omega) λi j hij hj=>by omega).mono λm x=>?_);obtain⟨x1,x2,x3,x4⟩:=x;by_cases c:m=n
 . rw[if_pos (by simpa using c)];exact fT.ret ⟨h,x1,by omega,x3⟩
 . rw[if_neg (by simpa using c)];by_cases c2:m > 1
   . rw[if_pos c2];refine fT.ask (h.lt (by omega)) (h.lt (by omega)) (h.ne (by omega) (by omega) (by omega)) ?_;have e2:cN r (p.getD 0 0) (p.getD (m - 1) 0)=true:=decide_eq_true (x3 0 (m - 1) (by omega) (by omega));rw[e2];exact fT.ret ⟨h,x1,by omega,x3⟩
   . have:m=1:=by omega
     subst this;refine fT.bind ((xK hr h (n - (1+1)) (1+1) (by omega) (by omega) (qu (λi j hij hj=>by omega) (UL _) (x4 (by omega)))).mono λt y=>?_);obtain⟨y1,y2,y3,y4,y5⟩:=y;rw[if_neg (by omega),y1];exact Ak hr h (by omega) (by omega) y5
theorem mO(hr:qG n r)(h:fu n p)(hk:k < n)(u:pJ r p k): ∀ f l m,l<=m->m<=k->m - l<=f->(∀ i,i < l->rk r p i < rk r p k)->(∀ i,m<=i->i < k->rk r p k < rk r p i) ->
  fT n (cN r) (kas_place p k f l m) λt=>t<=k/\(∀ i,i < t->rk r p i < rk r p k)/\(∀ i,t<=i->i < k->rk r p k < rk r p i)
 | 0,l,m,h1,h2,h3,a,b=>fT.ret ⟨by omega,a,λi hi hik=>b i (by omega) hik⟩
 | f+1,l,m,h1,h2,h3,a,b=>by
  unfold kas_place;by_cases c:l ≥ m
  . rw[if_pos c];exact fT.ret ⟨by omega,a,λi hi hik=>b i (by omega) hik⟩
  . rw[if_neg c];refine fT.ask (h.lt (by omega)) (h.lt (by omega)) (h.ne (by omega) (by omega) (by omega)) ?_;have ne:=B4 hr h (i:=k) (j:=(l+m) / 2) (by omega) (by omega) (by omega);by_cases d:rk r p k < rk r p ((l+m) / 2)
    . have e:cN r (p.getD k 0) (p.getD ((l+m) / 2) 0)=true:=decide_eq_true d;rw[e];refine mO hr h hk u f l ((l+m) / 2) (by omega) (by omega) (by omega) a λi hi hik=>?_;rcases Wu ((l+m) / 2) i with z | z
      . exact YF d (u _ _ z hik)
      . grind
    . have e:cN r (p.getD k 0) (p.getD ((l+m) / 2) 0)=false:=decide_eq_false d;rw[e];refine mO hr h hk u f ((l+m) / 2+1) m (by omega) (by omega) (by omega) (λi hi=>?_) b;have d':rk r p ((l+m) / 2) < rk r p k:=by omega
      rcases Wu i ((l+m) / 2) with z | z
      . exact YF (u _ _ z (by omega)) d'
      . grind
theorem pR(hk:k < p.size)(hd:d<=k) i:rk r (bubble p k d) i=if i=k - d then rk r p k else if k - d < i/\i<=k then rk r p (i - 1) else rk r p i:=by
 have g: ∀(q:Array Nat)(j:Nat),rk r q j=r (q[j]?.getD 0):=λq j=>by unfold rk;rw[VA]
 rw[g,g,g,g,getElem?_bubble hk d hd]
 repeat' split
 all_goals rfl
theorem CZ(hr:qG n r): ∀ f p k,fu n p->k+f=n->pJ r p k->fT n (cN r) (kas_bin f p k) λq=>fu n q/\pJ r q n
 | 0,p,k,h,e,u=>fT.ret ⟨h,(show k=n from e) ▸ u⟩
 | f+1,p,k,h,e,u=>by
  refine fT.bind ((mO hr h (by omega) u k 0 k (by omega) (by omega) (by omega) (λi hi=>by omega) (λi h1 h2=>by omega)).mono λl x=>?_);obtain⟨x1,x2,x3⟩:=x;refine CZ hr f _ (k+1) (h.of (bubble_perm _ _ _)) (by omega) λi j hij hj=>?_;have hs:k < p.size:=by rw[h.size];omega
  rw[pR hs (by omega),pR hs (by omega)]
  repeat' split
  all_goals first | (exfalso;omega) | exact u _ _ (by omega) (by omega) | exact x2 _ (by omega) | exact x3 _ (by omega) (by omega)
theorem EC(hr:qG n r)(h1:1<=n):fT n (cN r) (Xf n) λq=>fu n q/\pJ r q n:=by
 refine fT.bind ((Bx hr (vo n) h1).mono λt x=>?_);obtain⟨x1,x2,x3,x4⟩:=x;by_cases c:t.1 < n
 . rw[if_pos c];have:max t.1 1=t.1:=by omega
   rw[this];exact CZ hr _ _ _ x1 (by omega) x4
 . rw[if_neg c];have:t.1=n:=by omega
   exact fT.ret ⟨x1,this ▸ x4⟩
end
theorem sJ(h: ∀ i j,i < n->j < n->c i j=c' i j): ∀ t:KasT α,Cw n c' t=true->Cw n c t=true/\xT c t=xT c' t
 | .ret a,_=>⟨rfl,rfl⟩
 | .ask i j k,e=>by
  simp only[Cw,U3,decide_eq_true_eq,WS,decide_eq_false_iff_not] at e;have hc:=h i j e.1.1.1 e.1.1.2;have:=sJ h (k (c' i j)) e.2;simp only[Cw,xT,U3,decide_eq_true_eq,WS,decide_eq_false_iff_not];rw[hc];exact⟨⟨e.1,this.1⟩,this.2⟩
def iO(a b:Str):=a.cps.toList < b.cps.toList
instance (a b:Str):Decidable (iO a b):=inferInstanceAs (Decidable (a.cps.toList < b.cps.toList))
theorem gA a: ¬ iO a a:=List.lt_irrefl _
theorem iZ(h1:iO a b)(h2:iO b c):iO a c:=List.lt_trans h1 h2
theorem p5(h:iO a b): ¬ iO b a:=λz=>gA a (iZ h z)
theorem Gn{ b:Str}(h:a.cps.toList=b.cps.toList):a=b:=by
 cases a;simp only at h;rw[abu.mp h]
theorem kZ(h:a≠b):iO a b\/iO b a:=by
 by_cases h1:iO a b
 . exact .inl h1
 . by_cases h2:iO b a
   . exact .inr h2
   . exact absurd (Gn (List.le_antisymm (List.not_lt.mp h2) (List.not_lt.mp h1))) h
noncomputable def j2(xs:List Str) x:=(xs.filter λy=>decide (iO y x)).length
theorem pQ(hx:x∈xs)(h:iO x y):j2 xs x < j2 xs y:=by
 unfold j2;have sub: ∀ l:List Str,(l.filter λz=>decide (iO z x)).length<=(l.filter λz=>decide (iO z y)).length:=λl=>by
  induction l with
  | nil=>exact UL _
  | cons z r ih =>
   by_cases h1:iO z x
   . rw[Vn (by simpa using h1),Vn (by simpa using iZ h1 h)];simpa using ih
   . rw[VB (by simpa using h1)];by_cases h2:iO z y
     . rw[Vn (by simpa using h2)];exact WR ih
     . rw[VB (by simpa using h2)];exact ih
 induction xs with
 | nil=>cases hx
 | cons z r ih =>
  rcases UW.mp hx with rfl | hr
  . rw[VB (by simpa using gA x),Vn (by simpa using h)];exact aa9 (sub r)
  . by_cases h1:iO z x
    . rw[Vn (by simpa using h1),Vn (by simpa using iZ h1 h)];simpa using ih hr
    . rw[VB (by simpa using h1)];by_cases h2:iO z y
      . rw[Vn (by simpa using h2)];exact WQ (ih hr)
      . rw[VB (by simpa using h2)];exact ih hr
theorem CW(hx:x∈xs)(hy:y∈xs):j2 xs x < j2 xs y↔iO x y:=by
 refine⟨λh=>?_,pQ hx⟩;by_cases e:x=y
 . simp_all
 . rcases kZ e with z | z
   . exact z
   . exact absurd (pQ hy z) (Nat.lt_asymm h)
noncomputable def cS(xs:List Str) i j:=decide (iO (xs.getD i "") (xs.getD j ""))
theorem getD_mem{xs:List Str}(h:i < xs.length):xs.getD i "" ∈xs:=by
 simp_all
theorem tN(h1:1<=xs.length)(nd:xs.Nodup) :
  Cw xs.length (cS xs) (Xf xs.length)=true/\(xT (cS xs) (Xf xs.length)).toList.Perm (Vq xs.length)/\((xT (cS xs) (Xf xs.length)).toList.map λi=>xs.getD i "").Pairwise iO:=by
 have rkI: ∀ i j,i < xs.length->j < xs.length->(j2 xs (xs.getD i "") < j2 xs (xs.getD j "")↔iO (xs.getD i "") (xs.getD j "")):=λi j hi hj=>CW (getD_mem hi) (getD_mem hj);have hr:qG xs.length λi=>j2 xs (xs.getD i ""):=λi j hi hj e=>by
  have a:=rkI i j hi hj;have b:=rkI j i hj hi;have e':=Decidable.byContradiction λne=>by
   rcases kZ ne with z | z
   . have:=a.mpr z;simp only at e;omega
   . grind
  rw[VC,VC,UQ hi,UQ hj] at e';exact(Zf hi nd).mp (by rw[UQ hi,UQ hj];exact congrArg fv e')
 have ok:=EC hr h1;have al: ∀ i j,i < xs.length->j < xs.length->cS xs i j=cN (λi=>j2 xs (xs.getD i "")) i j:=λi j hi hj=>by
  unfold cS cN;rw[decide_eq_decide];exact(rkI i j hi hj).symm
 have ea:=sJ al (Xf xs.length) ok.1;rw[ea.2];have sh:=ok.2.1;refine⟨ea.1,sh.perm,?_⟩;rw[X9,List.pairwise_iff_getElem];intro i j hi hj hij;have hj':j < xs.length:=by rw[<- sh.size];simpa using hj
 have:=ok.2.2 i j hij hj';have:=(rkI _ _ (sh.lt (by omega)) (sh.lt hj')).mp this;rw[VA,VA,Wo (by omega),Wo (by omega)] at this;simpa using this
section
variable{prog:Vl}{w:VE}{A:Wf}{E:UH->UM->Prop}{s:UM}
noncomputable def cB(h:VO) a (vs:List UH):=((h.update a (WV λ_=>(#[]))).push (Xz "tuple" vs.toArray 0)).push (Xz "list" #[] 0)
theorem nK(hb:b < h.objs.size):(cB h a vs).get? b=(h.update a (WV λ_=>(#[]))).get? b :=
 (Ya _ _ _ (U7 (YW (WQ hb) ((size_push' _ _).trans (congrArg (· +1) (ZE _ _ _))).symm))).trans
  (Ya _ _ _ (U7 (YW hb (ZE _ _ _).symm)))
theorem ug(hb:b≠a)(e:h.get? b=fv o):(cB h a vs).get? b=fv o :=
 (nK (UT e)).trans ((aaH _ _ _ _ hb).trans e)
theorem kC{vs:List UH}(h:vs.length < 64):vs.length<=UK:=Va (WO h) (by decide)
theorem pf{a:U0}{vs:List UH}{n:Nat}{P:PySem.Fin->UM->Prop}{κ :abf}{G:Array Nat->Prop}(ho:s.heap.get? a=fv (Xz "list" vs.toArray n))(h64:vs.length < 64)
  (hk:2<=vs.length-> ∀ Q':abf->UM->Prop,Q' κ { s with heap:=cB s.heap a vs}->U2 (U8 prog w) A (keyKind' vs.toArray) Q' E { s with heap:=cB s.heap a vs})
  (ha:2<=vs.length-> ∀ Q':Array Nat->UM->Prop,(∀ p,G p->Q' p { s with heap:=cB s.heap a vs})->(Xf vs.length).kasWp (kas_ask prog w A κ vs) Q' { s with heap:=cB s.heap a vs})
  (h0:vs.length < 2->P (.done (.ret .none)) { s with heap:=ZV s.heap a vs vs.toArray})
  (h: ∀ p:Array Nat,p.size=vs.length->G p->P (.done (.ret .none)) { s with heap:=ZV s.heap a vs (p.toList.map λi=>vs.getD i WU).toArray}):U2 (U8 prog w) A (XT.«list.sort» ⟨[.ref a],[]⟩) P E s:=by
 obtain⟨ep,g1⟩: ∃ k,(s.heap.update a (WV λ_=>(#[]))).get? a=fv (Xz "list" #[] k):=⟨_,get?_update_seq ho λ_=> #[]⟩
 have g2:(cB s.heap a vs).get? a=fv (Xz "list" #[] ep):=(nK (UT ho)).trans g1;have z:=Vb (as:=vs);rw[list_sort_plain];refine UA (abg ho rfl (UA (Zq ho rfl (UA (abH g1 rfl (UA (wpAny_newTuple (UA (Yk (Wg ?_) (Vw _))) (kC h64))))) (z ▸ kC h64) (Vw _))));show U2 (U8 prog w) A _ P E { s with heap:=cB s.heap a vs};dsimp only;have last: ∀ out:Array UH,out.size<=UK->P (.done (.ret .none)) { s with heap:=ZV s.heap a vs out}->P (.done (.ret .none)) { s with heap:=(cB s.heap a vs).update a (WV λ_=>out)}:=λ_ _ q=>q;rcases Wu vs.toArray.size 2 with c | c
 . rw[if_pos c,if_pos c];have e:(arrOf (SortSt.mk' general' (vs.toArray.zip vs.toArray) #[] 7 UB)).map (·.2)=vs.toArray:=by
    apply abu.mp;rw[Array.toList_map,Array.toList_zip];exact List.map_snd_zip (UL _)
   refine UA (m:=pure general') (UO ?_);refine UA (UO (UA (abH g2 rfl (UA (Zq g2 rfl ?_ (Vw _) (hsz2:=by rw[e,z];exact WR (kC h64)))))));rw[if_neg (by simp)];refine UO ?_;rw[e];exact last _ (by rw[z];exact kC h64) (h0 (z ▸ c))
 . rw[if_neg (aaZ.mpr c),if_neg (aaZ.mpr c)];have c':=z ▸ c;have run:=kat_run (E:=E) (ks:=vs) (vs:=vs) (Q:=λst u=>u={ s with heap:=cB s.heap a vs}/\ ∃ p ,p.size=vs.length/\arrOf st=p.map (kas_item (vs.toArray.zip vs.toArray))/\failedOf st=UB/\G p)
    (G:=λp u=>u={ s with heap:=cB s.heap a vs}/\G p) rfl c' h64 (λp st u b1 b2 b3 b4=>⟨b4.1,p,b1,b2,b3,b4.2⟩) (ha c' _ λp g=>⟨rfl,g⟩)
   refine UA (hk c' _ (UA (Vo run (λr u x=>?_) λ_ _ x=>x)));obtain⟨⟨⟩,st⟩:=r;obtain⟨rfl,p,hp,har,hf,g⟩:=x;have el:(List.toArray (p.toList.map λi=>vs.getD i WU)).size<=UK:=by rw[Vb,UE,WB,hp];exact kC h64
   rw[kat_snds rfl har,hf];refine UA (abH g2 rfl (UA (Zq g2 rfl ?_ (Vw _) (WR el))));rw[if_neg (by simp)];exact UO (last _ el (h p hp g))
abbrev jO(h:VO)(vs:List UH):VO:=((h.push (Xz "list" #[] 0)).update h.objs.size (WV (· ++vs.toArray))).push (Xz "list" vs.toArray 0)
theorem d8(h:VO)(vs:List UH):((h.push (Xz "list" #[] 0)).update h.objs.size (WV (· ++vs.toArray))).objs.size=h.objs.size+1:=(ZE _ _ _).trans (size_push' _ _)
theorem iD h vs:(jO h vs).get? (h.objs.size+1)=fv (Xz "list" vs.toArray 0):=(d8 h vs) ▸ UY _ rfl
theorem tO(e:h.get? b=fv o):(jO h vs).get? b=fv o:=by
 have l:=UT e;have z:=d8 h vs;exact(Ya _ _ _ (U7 (YW (WQ l) z.symm))).trans ((aaH _ _ _ _ (U7 l)).trans ((Ya _ _ _ (U7 l)).trans e))
theorem vv{l:U0}{vs:List UH}{Q:UH->UM->Prop}{κ :abf}{G:Array Nat->Prop}(hl:s.heap.IsList l vs.toArray)(h64:vs.length < 64)
  (hk: ∀ h':VO,(∀ b o,s.heap.get? b=fv o->h'.get? b=fv o)->2<=vs.length-> ∀ Q':abf->UM->Prop,Q' κ { s with heap:=h'}->U2 (U8 prog w) A.in1.in1 (keyKind' vs.toArray) Q' E { s with heap:=h'})
  (ha: ∀ h':VO,(∀ b o,s.heap.get? b=fv o->h'.get? b=fv o)->2<=vs.length-> ∀ Q':Array Nat->UM->Prop,(∀ p,G p->Q' p { s with heap:=h'})->(Xf vs.length).kasWp (kas_ask prog w A.in1.in1 κ vs) Q' { s with heap:=h'})
  (h0:vs.length < 2->Q (.ref (s.heap.objs.size+1)) { s with heap:=abv s.heap vs vs.toArray})
  (h: ∀ p:Array Nat,p.size=vs.length->G p->Q (.ref (s.heap.objs.size+1)) { s with heap:=abv s.heap vs (p.toList.map λi=>vs.getD i WU).toArray}):U2 (U8 prog w) A (call (.builtin "sorted") [.ref l]) Q E s:=by
 have kp: ∀ b o,s.heap.get? b=fv o->(cB (jO s.heap vs) (s.heap.objs.size+1) vs).get? b=fv o:=λb o e=>ug (U7 (WQ (UT e))) (tO e);refine Xv abF aba abb (abc (.ref l)) ?_;refine UA (m:=checkCount "sorted" 1 1 [U6 l].length) (UO (UA (collect_list hl (UA (Yk ?_ (kC h64))) (kC h64))));show U2 _ _ _ _ _ { s with heap:=jO s.heap vs};rw [d8];refine UA (Wg (Wq aah ⟨_,iD s.heap vs,rfl⟩ Z6 (pf (G:=G) (κ := κ) (iD s.heap vs) h64 (hk _ kp) (ha _ kp) (λc=>⟨_,rfl,?_⟩) λp hp g=>⟨_,rfl,?_⟩) (aai (.ref (s.heap.objs.size+1)))))
 . exact UO ⟨_,rfl,h0 c⟩
 . exact UO ⟨_,rfl,h p hp g⟩
end
def jd(H:Hp)(y:V)(q:Str × Int):= ∃ b,y= .ref b/\H b=fv (.tup [.str q.1,.int q.2])
theorem jd.v(h:jd H y q):pV H y (.inr q.1,.int q.2):=h
theorem jd.same{H H':Hp}{y:V}{q:Str × Int}(h:jd H y q)(s:l8 H H'):jd H' y q:=let ⟨b,e,h⟩:=h;⟨b,e,s _ _ h⟩
def E4(h:VO)(v:UH)(q:Str × Int):= ∃ b o k t u,v= .ref b/\h.get? b=fv o/\o.cls= .type "tuple" /\o.data= .seq #[.str q.1 t,.int q.2 u] k
theorem E4.kept(k: ∀ b o,h.get? b=fv o->h'.get? b=fv o)(x:E4 h v q):E4 h' v q:=by obtain⟨b,o,n,t,u,e1,e2,e3,e4⟩:=x;exact⟨b,o,n,t,u,e1,k _ _ e2,e3,e4⟩
theorem sG(ok:jl P w H h): ∀{ys ps aj},VH (jd H) ys ps->Vals ys aj->VH (E4 h) aj ps
 | _,_,_,.nil,.nil=> .nil
 | _,_,_,.cons hp hr,.cons hv hrv=>by
  obtain⟨b,rfl,hb⟩:=hp;obtain⟨_,its0,r0,o,e1,e2,n,e3,_⟩:=(show aW P w H h b (.tup [.str _,.int _]) from ok b _ hb)
  obtain⟨u1,u2,rfl,⟨t1,rfl⟩,⟨t2,rfl⟩⟩:=vals2 r0;cases(show _=U6 b from hv);exact .cons ⟨b,o,n,t1,t2,rfl,e1,e2,e3⟩ (sG ok hr hrv)
theorem sx: ∀{vs ps},VH (E4 h) vs ps-> ∀{i},i < vs.length-> ∃ q,ps[i]?=fv q/\E4 h (vs.getD i WU) q
 | _,_,.nil,i,hi=>absurd hi (Yz _)
 | _,_,.cons hp hr,0,_=>⟨_,rfl,hp⟩
 | _,_,.cons hp hr,i+1,hi=>by
  obtain ⟨q,e,a⟩:=sx hr (i:=i) (by simp_all);exact ⟨q,by simpa using e,by simpa using a⟩
theorem uq : ∀{vs ps}, VH (E4 h) vs ps -> ∃ fs, KatTups h vs fs /\ fs.length = vs.length /\ ∀ v ∈ fs, ∃ x t, v = Yg x t
  | _, _, .nil => ⟨[], .nil, rfl, λv m => by cases m⟩
  | _, _, .cons hp hr => by
    obtain ⟨fs, k, l, st⟩ := uq hr;obtain ⟨b, o, n, t, u, rfl, e1, e2, e3⟩ := hp
    exact ⟨_, .cons e1 e2 e3 rfl k, by simp [l], fun v m => by rcases List.mem_cons.mp m with rfl | m; · exact ⟨_, _, rfl⟩
                                                               . exact st v m⟩
section
variable {prog:Vl} {w:VE} {A:Wf} {E:UH->UM->Prop} {s:UM}
theorem yG{vs:List UH}{ps:List (Str × Int)}(hp:VH (E4 s.heap) vs ps)(nd:(ps.map (·.1)).Nodup){i j:Nat}{C:Bool->UM->Prop}(hi:i < vs.length)(hj:j < vs.length)(hij:i≠j)(h:C (cS (ps.map (·.1)) i j) s):kas_ask prog w A (tuples' true) vs i j C s:=by
 obtain⟨q1,f1,b1,o1,n1,t1,u1,e1,g1,c1,d1⟩:=sx hp hi;obtain⟨q2,f2,b2,o2,n2,t2,u2,e2,g2,c2,d2⟩:=sx hp hj;have hne:q1.1≠q2.1:=λz=>hij ((Zf (by rw[UE];exact(UJ.mp f1).1) nd).mp (by simp_all));unfold kas_ask;rw[e1,e2];refine kat_lt g1 d1 g2 d2 (aaW q1.1 t1 q2.1 t2 _ _ _ _ ?_);refine Uj (by simpa using hne) ?_;refine oneLt_str ?_;have e:cS (ps.map (·.1)) i j=decide (q1.1.cps.toList < q2.1.cps.toList):=by
  unfold cS;rw[VC,VC,U1,U1,f1,f2];rfl
 rw[e] at h;exact h
theorem wN{vs:List UH}{ps:List (Str × Int)}(hp:VH (E4 s.heap) vs ps)(h2:2<=vs.length){Q':abf->UM->Prop}(q:Q' (tuples' true) s):U2 (U8 prog w) A (keyKind' vs.toArray) Q' E s:=by
 obtain⟨fs,k,l,st⟩:=uq hp;refine kat_kind (T:= .type "str") k (by omega) (λv m=>?_) (by decide) q;obtain⟨x,t,rfl⟩:=st v m;exact Looks.now
end
theorem oD: ∀{xs:List α}{zs:List β},VH R xs zs-> ∀{i} d e,i < xs.length->R (xs.getD i d) (zs.getD i e)
 | _,_,.nil,i,_,_,hi=>absurd hi (Yz _)
 | _,_,.cons hp hr,0,_,_,_=>hp
 | _,_,.cons hp hr,i+1,d,e,hi=>by simpa using oD hr (i:=i) d e (by simp_all)
theorem lH{xs:List α}{zs:List β}(hp:VH R xs zs) d e: ∀{is:List Nat},(∀ i∈is,i < xs.length)->VH R (is.map λi=>xs.getD i d) (is.map λi=>zs.getD i e)
 | [],_=> .nil
 | i::r,hi=> .cons (oD hp d e (hi i UX)) (lH hp d e λj m=>hi j (UZ _ m))
theorem ud: ∀{xs us},Vals xs us-> ∀{i},i < xs.length->RelV (xs.getD i .non) (us.getD i .none)
 | _,_,.nil,i,hi=>absurd hi (Yz _)
 | _,_,.cons hp hr,0,_=>hp
 | _,_,.cons hp hr,i+1,hi=>by simpa using ud hr (i:=i) (by simp_all)
theorem qq(h:Vals xs us): ∀{is:List Nat},(∀ i∈is,i < xs.length)->Vals (is.map λi=>xs.getD i .non) (is.map λi=>us.getD i .none)
 | [],_=> .nil
 | i::r,hi=> .cons (ud h (hi i UX)) (qq h λj m=>hi j (UZ _ m))
theorem yv{α :Type} l (d: α):(Vq l.length).map (λi=>l.getD i d)=l:=by
 refine abh λi=>?_;rw[U1];by_cases h:i < l.length
 . simp[h]
 . simp_all
def wd(K:UC):List V->Hp->VK->Prop:=λxs H Q=> ∃(p:U0)(ys:List V)(ps:List (Str × Int)),xs=[.ref p]/\gB K H p ys/\VH (jd H) ys ps/\ps.length < 64/\(ps.map (·.1)).Nodup /\
 ∀ l ys' ps',H l=UB->ps'.Perm ps->(ps'.map (·.1)).Pairwise iO->VH (jd H) ys' ps'->Q (.ref l) (upd H l (.lst ys'))
section
variable{X:Cx}
theorem rY:aM X (.builtin "sorted") (wd X.K):=by
 intro pins s σ H xs us Q I r h;obtain⟨p,ys,ps,rfl,hS,hP,h5,nd,q⟩:=h;obtain⟨u,rfl,ru⟩:=vals1 r;cases(show u=U6 p from ru);obtain⟨aj,hv,hl,hz⟩:=I.list hS;have hat:=sG I.bb hP hv;have hlen:=hv.length;have hpl:=XC hP;have fs0:=tN (xs:=ps.map (·.1))
 rw[UE] at fs0;have el:aj.length=ps.length:=by omega
 have fin: ∀(out:List UH)(ys':List V)(ps':List (Str × Int)),ys'.length=ps.length->Vals ys' out->ps'.Perm ps->(ps'.map (·.1)).Pairwise iO->VH (jd H) ys' ps'->EP X pins σ Q (.ref (s.heap.objs.size+1)) { s with heap:=abv s.heap aj out.toArray}:=λout ys' ps' hl' hv' pm pw pp=>by
  obtain⟨e,he⟩:=abd s.heap aj out.toArray;obtain⟨hn,I'⟩:=I.kW (a:=s.heap.objs.size+1) (o:= .lst ys') (t':=s.toks) (λb o e=>aaP e) (Wv (aan _)) ⟨by rw[hl'];exact Va (WO h5) (by decide),out,e,hv',by simpa [Xz] using he⟩;exact⟨.ref _,_,I',rfl,q _ ys' ps' hn pm pw pp⟩
 refine vv (κ :=tuples' true) (G:=λp=>2<=aj.length/\p=xT (cS (ps.map (·.1))) (Xf ps.length)) hl.isList (by omega)
  (λh' k h2 Q' hq=>wN (s:={ s with heap:=h'}) (Paired.zE hat λv q x=>x.kept k) h2 hq)
  (λh' k h2 Q' hq=>sP (n:=aj.length) (c:=cS (ps.map (·.1))) (λi j C hi hj hij hc=>yG (s:={ s with heap:=h'}) (Paired.zE hat λv q x=>x.kept k) nd hi hj hij hc) _ (by rw[el];exact(fs0 (by omega) nd).1) (hq _ ⟨h2,by rw[el]⟩))
  (λh2=>?_) λpp hpp g=>?_
 . refine fin aj ys ps (by omega) hv (abY _) ?_ hP;cases ps with
   | nil=>exact .nil
   | cons x r=>cases r with
    | nil=>exact ZF _ _
    | cons y r'=>simp at el;omega
 . obtain⟨g2,g⟩:=g;have fs:=fs0 (by omega) nd;subst g;have lt: ∀ i∈(xT (cS (ps.map (·.1))) (Xf ps.length)).toList,i < ps.length:=λi hi=>W4.mp (fs.2.1.mem_iff.mp hi)
   refine fin _ ((xT (cS (ps.map (·.1))) (Xf ps.length)).toList.map λi=>ys.getD i .non) ((xT (cS (ps.map (·.1))) (Xf ps.length)).toList.map λi=>ps.getD i ("",0)) ?_ (qq hv λi hi=>by have:=lt i hi;omega) ?_ ?_ (lH hP _ _ λi hi=>by have:=lt i hi;omega)
   . rw[UE,WB,hpp,el]
   . have:=fs.2.1.map (λi=>ps.getD i ("",0));rw[yv] at this;exact this
   . have e:(((xT (cS (ps.map (·.1))) (Xf ps.length)).toList.map λi=>ps.getD i ("",0)).map (·.1))=(xT (cS (ps.map (·.1))) (Xf ps.length)).toList.map λi=>(ps.map (·.1)).getD i ("" :Str):=by
      rw[Wj];refine List.map_congr_left λi hi=>?_;show(ps.getD i ("",0)).1=_;rw[VC,VC,U1,UQ (lt i hi)];rfl
     rw[e];exact fs.2.2
theorem sO(hc:X.calm=true):aM X (.builtin "sorted") (λxs H Q=>BI X.K xs H Q\/(AQ xs H Q\/wd X.K xs H Q)):=kU.or ((k8 hc).or rY)
end
def GV(K:UC):List V->Hp->VK->Prop:=λxs H Q=> ∃ x p Ts T b,xs=[x,.ref p]/\H p=fv (.tup (ab8 V.ty Ts))/\jb K H x (.type T)/\aau K (.type T) (ab8 Xl Ts)=fv b/\Q (.bl b) H
theorem xB: ∀{Ts:List String}{us},Vals (Ts.map V.ty) us->us=Ts.map Xl
 | [],_,.nil=>rfl
 | T::r,u::us,.cons h t=>by rw[xB t,show u=Xl T from h];rfl
section
variable{X:Cx}
theorem qz:aM X (.builtin "isinstance") (GV X.K):=by
 intro pins s σ H xs us Q I r h;obtain⟨x,p,Ts,T,b,rfl,hp,ty,e,q⟩:=h;obtain⟨u,c,rfl,ru,rc⟩:=vals2 r;cases(show c=U6 p from rc);obtain⟨_,aj,hv,⟨oc,dd,dat,sl⟩,e1,e2,n,e3,_⟩:=(show aW X.prog X.w H s.heap p (.tup (Ts.map V.ty)) from I.bb p _ hp)
 simp only at e2 e3;subst e2 e3;obtain rfl:=xB hv;have fin: ∀ tk,EP X pins σ Q (.bool b) { s with toks:=tk}:=λtk=>⟨.bl b,H,I.tok tk,rfl,q⟩
 generalize hT:Xl T=t at ty e;cases ty with
 | non=>cases(show u=WU from ru);exact YI kitx_none I.ky trivial e1 e nofun fin
 | bl y=>cases(show u=ZJ y from ru);exact YI kitx_bool I.ky trivial e1 e nofun fin
 | int i=>obtain⟨_,rfl⟩:=(show ∃ t,u=Xq i t from ru);exact YI kitx_int I.ky trivial e1 e nofun fin
 | str y=>obtain⟨_,rfl⟩:=(show ∃ t,u=Yg y t from ru);exact YI kitx_str I.ky trivial e1 e nofun fin
 | flt y=>obtain⟨_,rfl⟩:=(show ∃ t,u=abB y t from ru);exact YI abU I.ky trivial e1 e nofun fin
 | @lst a xs ea =>
  cases(show u=U6 a from ru)
  obtain⟨_,_,_,_,g⟩:=(show aW X.prog X.w H s.heap a (.lst xs) from I.bb a _ ea)
  exact YI Zk I.ky ⟨_,g,rfl⟩ e1 e nofun fin
 | @jx a ob xs ea =>
  cases(show u=U6 a from ru)
  obtain⟨_,_,_,_,_,g⟩:=(show aW X.prog X.w H s.heap a (.jx ob (.lst xs)) from I.bb a _ ea)
  exact YI Zk I.ky ⟨_,g,rfl⟩ e1 e nofun fin
 | @tup a xs ea =>
  cases(show u=U6 a from ru)
  obtain⟨_,_,_,o,g1,g2,_⟩:=(show aW X.prog X.w H s.heap a (.tup xs) from I.bb a _ ea)
  exact YI abV I.ky ⟨o,g1,g2⟩ e1 e nofun fin
 | @dK a kvs ea =>
  cases(show u=U6 a from ru)
  obtain⟨_,_,_,_,o,_,_,g1,g2,_⟩:=(show aW X.prog X.w H s.heap a (.dK kvs) from I.bb a _ ea)
  exact YI Zl I.ky ⟨o,g1,g2.1⟩ e1 e nofun fin
 | @dT a kvs ea =>
  cases(show u=U6 a from ru)
  obtain⟨_,_,_,_,o,_,_,g1,g2,_⟩:=(show aW X.prog X.w H s.heap a (.dT kvs) from I.bb a _ ea)
  exact YI Zl I.ky ⟨o,g1,g2.1⟩ e1 e nofun fin
 | ins=>cases hT
theorem A7:aM X (.builtin "isinstance") (λxs H Q=>Qa X.K xs H Q\/GV X.K xs H Q):=Ez.or qz
end
section
variable{prog:Vl}{w:VE}{A:Wf}{E:UH->UM->Prop}{s:UM}
theorem RO[Decidable c](hc: ¬ c)(h:U2 M A m' Q E s):U2 M A (if c then m else m') Q E s:=by rw[if_neg hc];exact h
theorem gL{it t:U0}{i:Nat}{items:Array UH}{x:UH}{Q:UH->UM->Prop}(hit:s.heap.IsTupleIter it t i)(ht:s.heap.IsTuple t items)(hx:items[i]?=fv x)
  (q: ∀ h',h'.IsTupleIter it t (i+1)->ZK it s.heap h'->Q x { s with heap:=h'}):U2 (U8 prog w) A (VF (.ref it)) Q E s:=by
 obtain⟨oi,g1,c1,d1⟩:=id hit;obtain⟨ot,g2,_,k,d2⟩:=id ht;have new:(s.heap.update it (Obj.mapFields (·.setIfInBounds 1 (abT ((i:Int)+1))))).IsTupleIter it t (i+1):=⟨_,aab _ g1 (Obj.isFreed_of_fields (aa0 d1 _)),(Obj.cls_mapFields ..).trans c1,(aa0 d1 _).trans (by rfl)⟩
 refine UA (Wb (name:=UI "__next__") hit.typeIs Wl (Wq Wl hit.typeIs X5 ?_ (XX (.ref it))));refine UA (m:=aav (.ref it) 0) (VZ g1 d1 (x:= .ref t) rfl (RO (λz=>by cases z) (UA (m:=aav (.ref it) 1) (VZ g1 d1 (x:= .int i 0) rfl (UA (m:=seqItems? (.ref t)) (Wx g2 d2 ?_))))));dsimp only;rw[VD,hx];exact UA (wpAny_setField g1 d1 (by simp) (UO ⟨x,rfl,UO (q _ new (aaI ..))⟩))
theorem kQ{it t:U0}{i:Nat}{items:Array UH}{Q:UH->UM->Prop}(hh:A.handled=UB)(hit:s.heap.IsTupleIter it t i)(ht:s.heap.IsTuple t items)(hx:items[i]?=UB)
  (q: ∀ h' e,Heap.ExtBut it s.heap h'->(∃ o,h'.get? e=fv o/\o.cls= .type "StopIteration")->E (.ref e) { s with heap:=h'}):U2 (U8 prog w) A (VF (.ref it)) Q E s:=by
 obtain⟨oi,g1,c1,d1⟩:=id hit;obtain⟨ot,g2,_,k,d2⟩:=id ht;refine UA (Wb (name:=UI "__next__") hit.typeIs Wl (Wq Wl hit.typeIs X5 ?_ (XX (.ref it))));refine UA (m:=aav (.ref it) 0) (VZ g1 d1 (x:= .ref t) rfl (RO (λz=>by cases z) (UA (m:=aav (.ref it) 1) (VZ g1 d1 (x:= .int i 0) rfl (UA (m:=seqItems? (.ref t)) (Wx g2 d2 ?_))))));dsimp only;rw[VD,hx];refine UA (ZW (UA (wpAny_setField g1 d1 (by simp) (UA (m:=newExc (.type "StopIteration") []) (UA (m:=newTuple []) (V0 ?_ (by size_fits)))))));refine UA (m:=firstArgMember _ _) (wpAny_of_eq (a:=WU) (by rfl) (V0 ?_ (by size_fits)));refine UA (wpAny_handled ?_);rw[show A.in1.handled=UB from hh];exact UA (UO (wpAny_throw (q _ _ (((aaI ..).extBut.push _).push _) ⟨_,UY _ rfl,rfl⟩)))
structure uH(h:VO)(z TI TO i1 i2 l1 l2:U0)(k:Nat):Prop where
 zM:IsZip h z TI TO .none
 aj:Zr h TI (.ref i1) (.ref i2)
 old: ∃ a b,Zr h TO a b
 one:h.IsTupleIter i1 l1 k
 two:h.IsTupleIter i2 l2 k
theorem zA{z TI TO i1 i2 l1 l2:U0}{k:Nat}{xs ys:Array UH}{x y:UH}{Q:UH->UM->Prop}(D:abi z TI TO i1 i2 l1 l2)(Z:uH s.heap z TI TO i1 i2 l1 l2 k)(t1:s.heap.IsTuple l1 xs)(t2:s.heap.IsTuple l2 ys)(hx:xs[k]?=fv x)(hy:ys[k]?=fv y)
  (q: ∀ h',IsZip h' z TI TO (abT s.heap.objs.size)->Zr h' TI (.ref i1) (.ref i2)->Zr h' TO x y->h'.IsTupleIter i1 l1 (k+1)->h'.IsTupleIter i2 l2 (k+1)->Zr h' s.heap.objs.size x y ->
   (∀ c o,c≠z->c≠TO->c≠i1->c≠i2->s.heap.get? c=fv o->h'.get? c=fv o)->Q (.ref s.heap.objs.size) { s with heap:=h'}):U2 (U8 prog w) A (XT.«zip.__next__» ⟨[.ref z],[]⟩) (λr u=> ∃ v,r= .done (.ret v)/\Q v u) E s:=by
 obtain⟨hz,hTI,⟨a,b,hTO⟩,o1,o2⟩:=Z;refine UA (m:=aav (.ref z) 2) (VZ hz rfl (x:= .bool false) rfl ?_);refine UA (m:=aav (.ref z) 3) (VZ hz rfl (x:= .ref TI) rfl (UA (Wx hTI rfl ?_)));refine UA (m:=XM (.ref z)) (UA (m:=aav (.ref z) 0) (VZ hz rfl (x:= .none) rfl (UO (QH rfl (UA (ZW ?_))))));refine UA (m:=aav (.ref z) 4) (VZ hz rfl (x:= .ref TO) rfl (UA (WJ hz (by simp) λu1 z1 b1=>?_)))
 replace z1:=z1
 refine UA ?_;rw[show(#[U6 i1,U6 i2]).toList.zipIdx=[(U6 i1,0),(U6 i2,1)] from rfl,Xe];refine UA (UA (Yl (UA (m:=VF (.ref i1)) (gL (o1.at λo e=>b1.extBut _ _ D.i1z e) (t1.at λo e=>b1.extBut _ _ D.l1z e) hx λu2 p1 b2=>UO ?_))));have T2:=b2.extBut _ _ D.TOi1 (b1.extBut _ _ D.TOz hTO);refine UA (Wx T2 rfl (UA (Yq T2 λu3 T3 b3=>UA (abI (UO ?_)))))
 replace T3:=T3
 have k3: ∀ c o,c≠z->c≠TO->c≠i1->s.heap.get? c=fv o->u3.get? c=fv o:=λc o n1 n2 n3 e=>b3.extBut _ _ n2 (b2.extBut _ _ n3 (b1.extBut _ _ n1 e));dsimp only;rw[Xe];refine UA (UA (Yl (UA (m:=VF (.ref i2)) (gL (o2.at λo e=>k3 _ o D.i2z D.TOi2.symm D.i12.symm e) (t2.at λo e=>k3 _ o D.l2z D.l2TO D.l2i1 e) hy λu4 p2 b4=>UO ?_))));have T4:=b4.extBut _ _ D.TOi2 T3;refine UA (Wx T4 rfl (UA (Yq T4 λu5 T5 b5=>UA (abI (UO ?_)))))
 replace T5:Zr u5 TO x y:=T5
 have k5:=λc o n1 n2 n3 n4 e=>b5.extBut _ _ n2 (b4.extBut _ _ n4 (k3 c o n1 n2 n3 e));have sz:=b5.1.trans (b4.1.trans (b3.1.trans (b2.1.trans b1.1)));have z5:=b5.extBut _ _ D.TOz.symm (b4.extBut _ _ D.i2z.symm (b3.extBut _ _ D.TOz.symm (b2.extBut _ _ D.i1z.symm z1)));have p15:=p1.at λo e=>b5.extBut _ _ D.TOi1.symm (b4.extBut _ _ D.i12 (b3.extBut _ _ D.TOi1.symm e));have p25:=p2.at λo e=>b5.extBut _ _ D.TOi2.symm e;have lz:=UT z5;dsimp only;rw[List.forIn_nil];refine UO (UA (Wx T5 rfl (UA (wpAny_newTuple ?_ (by show 2<=UK;decide)))));have z6:IsZip (u5.push { cls:= .type "tuple",data:= .seq #[x,y]}) z TI TO .ellipsis:=UD _ z5;refine UA (m:=aaJ (.ref z) (.ref u5.objs.size)) (UA (WJ z6 (by simp) λu7 z7 b7=>WJ (show IsZip u7 z TI TO (abT u5.objs.size) from z7) (by simp) λu8 z8 b8=>UO ⟨_,rfl,?_⟩));have up: ∀ c o,c≠z->u5.get? c=fv o->u8.get? c=fv o:=λc o n e=>b8.extBut _ _ n (b7.extBut _ _ n (UD _ e));have T8:=b8.extBut _ _ (WD lz) (b7.extBut _ _ (WD lz) (UY _ rfl))
 replace z8:=z8
 rw[sz] at z8 T8 ⊢;exact q u8 z8 (up _ _ D.TIz (k5 _ _ D.TIz D.TITO D.TIi1 D.TIi2 hTI)) (up _ _ D.TOz T5) (p15.at λo e=>up _ o D.i1z e) (p25.at λo e=>up _ o D.i2z e) T8 λc o n1 n2 n3 n4 e=>up c o n1 (k5 c o n1 n2 n3 n4 e)
theorem An{z TI TO i1 i2 l1 l2:U0}{k:Nat}{xs ys:Array UH}{Q:PySem.Fin->UM->Prop}(hh:A.handled=UB)(D:abi z TI TO i1 i2 l1 l2)(Z:uH s.heap z TI TO i1 i2 l1 l2 k)(t1:s.heap.IsTuple l1 xs)(t2:s.heap.IsTuple l2 ys)(he:xs[k]?=UB\/ys[k]?=UB)
  (q: ∀ h' e,(∀ c o,c≠z->c≠TO->c≠i1->c≠i2->s.heap.get? c=fv o->h'.get? c=fv o)->(∃ o,h'.get? e=fv o/\o.cls= .type "StopIteration")->E (.ref e) { s with heap:=h'}):U2 (U8 prog w) A (XT.«zip.__next__» ⟨[.ref z],[]⟩) Q E s:=by
 obtain⟨hz,hTI,⟨a,b,hTO⟩,o1,o2⟩:=Z;have ap: ∀(h':VO)(f0:UH)(e:U0)(o:Obj),IsZip h' z TI TO f0->h'.get? e=fv o->o.cls= .type "StopIteration" ->e≠z:=λh' f0 e o y g c n=>by grind
 refine UA (m:=aav (.ref z) 2) (VZ hz rfl (x:= .bool false) rfl ?_);refine UA (m:=aav (.ref z) 3) (VZ hz rfl (x:= .ref TI) rfl (UA (Wx hTI rfl ?_)));refine UA (m:=XM (.ref z)) (UA (m:=aav (.ref z) 0) (VZ hz rfl (x:= .none) rfl (UO (QH rfl (UA (ZW ?_))))));refine UA (m:=aav (.ref z) 4) (VZ hz rfl (x:= .ref TO) rfl (UA (WJ hz (by simp) λu1 z1 b1=>?_)));refine UA ?_;rw[show(#[U6 i1,U6 i2]).toList.zipIdx=[(U6 i1,0),(U6 i2,1)] from rfl,Xe]
 match hx:xs[k]? with
 | none =>
  refine UA (UA (Yl (UA (m:=VF (.ref i1)) (kQ hh (o1.at λo e=>b1.extBut _ _ D.i1z e) (t1.at λo e=>b1.extBut _ _ D.l1z e) hx λu2 e b2 g=>?_))))
  obtain⟨oe,g1,g2⟩:=g
  have z2:=b2 _ _ D.i1z.symm z1
  exact WJ z2 (by simp) λu3 _ b3=>q u3 e (λc o n1 _ n3 _ y=>b3.extBut _ _ n1 (b2 _ _ n3 (b1.extBut _ _ n1 y))) ⟨oe,b3.extBut _ _ (ap u2 _ e oe z2 g1 g2) g1,g2⟩
 | some x =>
  have hy:=he.resolve_left (by simp_all)
  refine UA (UA (Yl (UA (m:=VF (.ref i1)) (gL (o1.at λo e=>b1.extBut _ _ D.i1z e) (t1.at λo e=>b1.extBut _ _ D.l1z e) hx λu2 p1 b2=>UO ?_))))
  have T2:=b2.extBut _ _ D.TOi1 (b1.extBut _ _ D.TOz hTO)
  refine UA (Wx T2 rfl (UA (Yq T2 λu3 T3 b3=>UA (abI (UO ?_)))))
  have k3: ∀ c o,c≠z->c≠TO->c≠i1->s.heap.get? c=fv o->u3.get? c=fv o:=λc o n1 n2 n3 e=>b3.extBut _ _ n2 (b2.extBut _ _ n3 (b1.extBut _ _ n1 e))
  dsimp only
  rw[Xe]
  refine UA (UA (Yl (UA (m:=VF (.ref i2)) (kQ hh (o2.at λo e=>k3 _ o D.i2z D.TOi2.symm D.i12.symm e) (t2.at λo e=>k3 _ o D.l2z D.l2TO D.l2i1 e) hy λu4 e b4 g=>?_))))
  obtain⟨oe,g1,g2⟩:=g
  have z4:=b4 _ _ D.i2z.symm (b3.extBut _ _ D.TOz.symm (b2.extBut _ _ D.i1z.symm z1))
  exact WJ z4 (by simp) λu5 _ b5=>q u5 e (λc o n1 n2 n3 n4 y=>b5.extBut _ _ n1 (b4 _ _ n4 (k3 c o n1 n2 n3 y))) ⟨oe,b5.extBut _ _ (ap u4 _ e oe z4 g1 g2) g1,g2⟩
theorem mZ{z TI TO i1 i2 l1 l2:U0}{k:Nat}{xs ys:Array UH}{x y:UH}{Q:Option UH->UM->Prop}(D:abi z TI TO i1 i2 l1 l2)(Z:uH s.heap z TI TO i1 i2 l1 l2 k)(t1:s.heap.IsTuple l1 xs)(t2:s.heap.IsTuple l2 ys)(hx:xs[k]?=fv x)(hy:ys[k]?=fv y)
  (q: ∀ h',IsZip h' z TI TO (abT s.heap.objs.size)->Zr h' TI (.ref i1) (.ref i2)->Zr h' TO x y->h'.IsTupleIter i1 l1 (k+1)->h'.IsTupleIter i2 l2 (k+1)->Zr h' s.heap.objs.size x y ->
   (∀ c o,c≠z->c≠TO->c≠i1->c≠i2->s.heap.get? c=fv o->h'.get? c=fv o)->Q (fv (.ref s.heap.objs.size)) { s with heap:=h'}):U2 (U8 prog w) A (abm (.ref z)) Q E s :=
 have ty:=⟨_,Z.zM,rfl⟩
 UA (wpAny_attempt (Wb (name:=UI "__next__") ty Xk (Wq Xk ty ZX (zA D Z t1 t2 hx hy λh' a1 a2 a3 a4 a5 a6 a7=>UO (q h' a1 a2 a3 a4 a5 a6 a7)) (ZG (.ref z)))))
theorem pv{z TI TO i1 i2 l1 l2:U0}{k:Nat}{xs ys:Array UH}{Q:Option UH->UM->Prop}(hh:A.handled=UB)(D:abi z TI TO i1 i2 l1 l2)(Z:uH s.heap z TI TO i1 i2 l1 l2 k)(t1:s.heap.IsTuple l1 xs)(t2:s.heap.IsTuple l2 ys)(he:xs[k]?=UB\/ys[k]?=UB)
  (q: ∀ h',(∀ c o,c≠z->c≠TO->c≠i1->c≠i2->s.heap.get? c=fv o->h'.get? c=fv o)->Q UB { s with heap:=h'}):U2 (U8 prog w) A (abm (.ref z)) Q E s :=
 have ty:=⟨_,Z.zM,rfl⟩
 UA (wpAny_attempt (Wb (name:=UI "__next__") ty Xk (Wq Xk ty ZX (An (A:=A.in1) hh D Z t1 t2 he λh' e a1 g =>
  by obtain⟨o,g1,g2⟩:=g;exact UA (wpAny_isInstance (T:= "StopIteration") (b:=true) ⟨o,g1,g2⟩ isSubtype_stop (UO (q h' a1)))) (ZG (.ref z)))))
end
end L2
end
section
open PySem PySem.W PyProof.Rows
namespace P3
open PySem PySem.Spec PyProof.Rows L2
inductive PV where
 | non | bl (b:Bool) | int (i:Int) | str (x:Str) | tup (xs:List PV) | ktup (xs:List PV) | ref (n:Nat) | ty (n:String)
mutual
def PV.beq:PV->PV->Bool
 | .non,.non=>true
 | .bl a,.bl b=>decide (a=b)
 | .int a,.int b=>decide (a=b)
 | .str a,.str b=>decide (a=b)
 | .tup a,.tup b=>PV.DS a b
 | .ktup a,.ktup b=>PV.DS a b
 | .ref a,.ref b=>decide (a=b)
 | .ty a,.ty b=>decide (a=b)
 | _,_=>false
def PV.DS:List PV->List PV->Bool
 | [],[]=>true
 | a::x,b::y=>PV.beq a b&&PV.DS x y
 | _,_=>false
end
theorem fQ{p:Prop}(h: ¬ p):false=true↔p:=⟨λe=>(by cases e),λe=>absurd e h⟩
mutual
theorem PV.beq_iff: ∀(a b:PV),PV.beq a b=true↔a=b
 | .non,b=>by cases b<;>first | exact iff_of_true rfl rfl | exact fQ (by intro e;cases e)
 | .bl _,b=>by cases b<;>first | exact decide_eq_true_iff.trans (by simp) | exact fQ (by intro e;cases e)
 | .int _,b=>by cases b<;>first | exact decide_eq_true_iff.trans (by simp) | exact fQ (by intro e;cases e)
 | .str _,b=>by cases b<;>first | exact decide_eq_true_iff.trans (by simp) | exact fQ (by intro e;cases e)
 | .ref _,b=>by cases b<;>first | exact decide_eq_true_iff.trans (by simp) | exact fQ (by intro e;cases e)
 | .ty _,b=>by cases b<;>first | exact decide_eq_true_iff.trans (by simp) | exact fQ (by intro e;cases e)
 | .tup a,b=>by cases b<;>first | exact(PV.oH a _).trans (by simp) | exact fQ (by intro e;cases e)
 | .ktup a,b=>by cases b<;>first | exact(PV.oH a _).trans (by simp) | exact fQ (by intro e;cases e)
theorem PV.oH: ∀(a b:List PV),PV.DS a b=true↔a=b
 | [],b=>by cases b<;>first | exact iff_of_true rfl rfl | exact fQ (by intro e;cases e)
 | a::x,b=>by
  cases b with
  | nil=>exact fQ (by intro e;cases e)
  | cons b y=>exact(aap.trans (and_congr (PV.beq_iff a b) (PV.oH x y))).trans (by simp)
end
instance:DecidableEq PV:=λa b=>decidable_of_iff _ (PV.beq_iff a b)
mutual
def PV.flat:PV->Bool
 | .ref _=>false
 | .tup xs=>PV.aU xs
 | .ktup xs=>PV.aU xs
 | _=>true
def PV.aU:List PV->Bool
 | []=>true
 | x::r=>x.flat&&PV.aU r
end
mutual
def PV.i6(n:Nat):PV->Bool
 | .ref m=>decide (m < n)
 | .tup xs=>PV.jw n xs
 | .ktup xs=>PV.jw n xs
 | _=>true
def PV.jw(n:Nat):List PV->Bool
 | []=>true
 | x::r=>x.i6 n&&PV.jw n r
end
inductive PO where
 | lst (xs:List PV) | jX (xs:List PV) | dct (kvs:List (Key × PV))
 deriving DecidableEq
noncomputable def PO.fB:PO->Bool
 | .jX _=>false
 | _=>true
noncomputable def PO.i6(n:Nat):PO->Bool
 | .lst xs=>PV.jw n xs
 | .jX xs=>PV.jw n xs
 | .dct kvs=>PV.jw n (kvs.map (·.2))
abbrev PH:=List PO
abbrev aZ:=List (Option PV)
def KT(K:UC) a (xs:List V):= ∃(o:Obj)(aj:Array UH)(n:Nat),K.lookup a=fv o/\o.cls= .type "tuple" /\o.data= .seq aj n/\aj.size<=UK/\Vals xs aj.toList
mutual
def rel(K:UC)(ρ :List U0)(H:Hp):PV->V->Prop
 | .non,v=>v= .non
 | .bl b,v=>v= .bl b
 | .int i,v=>v= .int i
 | .str x,v=>v= .str x
 | .ty n,v=>v= .ty n
 | .ref n,v=> ∃ a, ρ[n]?=fv a∧v= .ref a
 | .tup xs,v=> ∃ a vs,v= .ref a∧H a=fv (.tup vs)∧aq K ρ H xs vs
 | .ktup xs,v=> ∃ a vs,v= .ref a∧KT K a vs∧aq K ρ H xs vs
def aq(K:UC)(ρ :List U0)(H:Hp):List PV->List V->Prop
 | [],vs=>vs=[]
 | x::r,vs=> ∃ v t,vs=v::t∧rel K ρ H x v∧aq K ρ H r t
end
structure Gr (ρ :List U0) (H:Hp) (ρ':List U0) (H':Hp):Prop where
 pre: ∀(n:Nat)(a:U0), ρ[n]?=fv a-> ρ'[n]?=fv a
 tup: ∀ a xs,H a=fv (.tup xs)->H' a=fv (.tup xs)
 jx: ∀ a o u,H a=fv (.jx o u)->H' a=fv (.jx o u)
theorem Gr.refl ρ H:Gr ρ H ρ H:=⟨λ_ _ h=>h,λ_ _ h=>h,λ_ _ _ h=>h⟩
theorem Gr.trans(a:Gr ρ H ρ1 H1)(b:Gr ρ1 H1 ρ2 H2):Gr ρ H ρ2 H2 :=
 ⟨λn x h=>b.pre n x (a.pre n x h),λx xs h=>b.tup x xs (a.tup x xs h),λx o u h=>b.jx x o u (a.jx x o u h)⟩
section
variable{K:UC}{ρ ρ':List U0}{H H':Hp}
theorem Gr.Dh(g:Gr ρ H ρ' H')(h:dQ K H a xs):dQ K H' a xs:=by
 rcases h with(h | ⟨o,h⟩) | h
 . exact .inl (.inl (g.tup _ _ h))
 . exact .inl (.inr ⟨o,g.jx _ _ _ h⟩)
 . exact .inr h
theorem Gr.Up(g:Gr ρ H ρ' H')(h:xh K H a xs):xh K H' a xs:=by
 rcases h with⟨o,h⟩ | h
 . exact .inl ⟨o,g.jx _ _ _ h⟩
 . exact .inr h
mutual
theorem rel.gr(g:Gr ρ H ρ' H'): ∀(x:PV)(v:V),rel K ρ H x v->rel K ρ' H' x v
 | .non,v,h=>by simpa only[rel] using h
 | .bl _,v,h=>by simpa only[rel] using h
 | .int _,v,h=>by simpa only[rel] using h
 | .str _,v,h=>by simpa only[rel] using h
 | .ty _,v,h=>by simpa only[rel] using h
 | .ref n,v,h=>by
  rw[rel] at h ⊢;obtain⟨a,e,h⟩:=h;exact⟨a,g.pre _ _ e,h⟩
 | .tup xs,v,h=>by
  rw[rel] at h ⊢;obtain⟨a,vs,e,s,r⟩:=h;exact⟨a,vs,e,g.tup _ _ s,aq.gr g xs vs r⟩
 | .ktup xs,v,h=>by
  rw[rel] at h ⊢;obtain⟨a,vs,e,s,r⟩:=h;exact⟨a,vs,e,s,aq.gr g xs vs r⟩
theorem aq.gr(g:Gr ρ H ρ' H'): ∀(xs:List PV)(vs:List V),aq K ρ H xs vs->aq K ρ' H' xs vs
 | [],vs,h=>by simpa only[aq] using h
 | x::r,vs,h=>by
  rw[aq] at h ⊢;obtain⟨v,t,e,h1,h2⟩:=h;exact⟨v,t,e,rel.gr g x v h1,aq.gr g r t h2⟩
end
noncomputable def PV.seq?:PV->Option (List PV)
 | .tup xs=>fv xs
 | .ktup xs=>fv xs
 | _=>UB
theorem rel.seq(e:x.seq?=fv xs)(h:rel K ρ H x v): ∃ a vs,v= .ref a/\dQ K H a vs/\aq K ρ H xs vs:=by
 cases x<;>simp only[PV.seq?,reduceCtorEq,X8] at e
 . subst e;obtain⟨a,vs,e,z,r⟩:=h;exact⟨a,vs,e,.of z,r⟩
 . subst e;obtain⟨a,vs,e,z,r⟩:=h;exact⟨a,vs,e,.inr z,r⟩
theorem bP:aq K ρ H [] vs↔vs=[]:=by rw[aq]
theorem au:aq K ρ H (x::r) vs↔ ∃ v t,vs=v::t/\rel K ρ H x v/\aq K ρ H r t:=by rw[aq]
theorem aq.len: ∀{xs vs},aq K ρ H xs vs->xs.length=vs.length
 | [],vs,h=>by rw[h];rfl
 | x::r,vs,h=>by
  obtain⟨v,t,rfl,_,h2⟩:=au.mp h;simp[aq.len h2]
theorem aq.get: ∀{xs vs}{i:Nat}{x},aq K ρ H xs vs->xs[i]?=fv x-> ∃ v,vs[i]?=fv v/\rel K ρ H x v
 | [],vs,i,x,h,e=>by simp at e
 | y::r,vs,i,x,h,e=>by
  obtain⟨v,t,rfl,h1,h2⟩:=au.mp h;cases i with
  | zero=>simp at e;subst e;exact⟨v,rfl,h1⟩
  | succ i=>simpa using aq.get h2 (by simpa using e)
theorem aq.app: ∀{xs ys vs ws},aq K ρ H xs vs->aq K ρ H ys ws->aq K ρ H (xs++ys) (vs++ws)
 | [],ys,vs,ws,h,h'=>by subst h;exact h'
 | x::r,ys,vs,ws,h,h'=>by
  obtain⟨v,t,rfl,h1,h2⟩:=au.mp h;exact au.mpr ⟨v,t++ws,rfl,h1,aq.app h2 h'⟩
theorem aq.one(h:rel K ρ H x v):aq K ρ H [x] [v]:=au.mpr ⟨v,[],rfl,h,bP.mpr rfl⟩
theorem aq.take: ∀{xs vs} n,aq K ρ H xs vs->aq K ρ H (xs.take n) (vs.take n)
 | xs,vs,0,h=>by rfl
 | [],vs,n+1,h=>by subst h;simp[bP]
 | x::r,vs,n+1,h=>by
  obtain⟨v,t,rfl,h1,h2⟩:=au.mp h;exact au.mpr ⟨v,t.take n,rfl,h1,aq.take n h2⟩
theorem aq.drop: ∀{xs vs} n,aq K ρ H xs vs->aq K ρ H (xs.drop n) (vs.drop n)
 | xs,vs,0,h=>h
 | [],vs,n+1,h=>by subst h;simp[bP]
 | x::r,vs,n+1,h=>by
  obtain⟨v,t,rfl,h1,h2⟩:=au.mp h;exact aq.drop n h2
theorem aq.set: ∀{xs vs x v} i,aq K ρ H xs vs->rel K ρ H x v->aq K ρ H (xs.set i x) (vs.set i v)
 | [],vs,x,v,i,h,hv=>by subst h;simp[bP]
 | y::r,vs,x,v,i,h,hv=>by
  obtain⟨w,t,rfl,h1,h2⟩:=au.mp h;cases i with
  | zero=>exact au.mpr ⟨v,t,rfl,hv,h2⟩
  | succ i=>exact au.mpr ⟨w,t.set i v,rfl,h1,aq.set i h2 hv⟩
theorem aq.ints: ∀(ns:List Int),aq K ρ H (ns.map PV.int) (ns.map V.int)
 | []=>bP.mpr rfl
 | n::r=>au.mpr ⟨.int n,r.map V.int,rfl,by rw[rel],aq.ints r⟩
end
def kX(K:UC)(ρ :List U0)(H:Hp)(a:U0):PO->Prop
 | .lst xs=> ∃ vs,H a=fv (.lst vs)/\aq K ρ H xs vs
 | .jX xs=> ∃ vs,xh K H a vs/\aq K ρ H xs vs
 | .dct kvs=> ∃ kws,H a=fv (.dK kws)/\VH (λ(p) (q)=>p.1=q.1/\rel K ρ H p.2 q.2) kvs kws
structure cG(K:UC)(ρ :List U0)(h:PH)(H:Hp):Prop where
 len: ρ.length=h.length
 nd: ∀(i j:Nat)(a:U0)(oi oj:PO),h[i]?=fv oi->h[j]?=fv oj->oi.fB=true->oj.fB=true-> ρ[i]?=fv a-> ρ[j]?=fv a->i=j
 ob: ∀(i:Nat)(o:PO)(a:U0),h[i]?=fv o-> ρ[i]?=fv a->kX K ρ H a o
section
variable {K:UC} {ρ ρ':List U0} {H H':Hp} {h:PH}
theorem cG.at(s:cG K ρ h H){i:Nat}(e:h[i]?=fv o): ∃ a, ρ[i]?=fv a∧kX K ρ H a o:=by
 have hi:i < ρ.length:=by rw [s.len];exact (UJ.mp e).1
 exact ⟨ρ[i],UQ hi,s.ob i o _ e (UQ hi)⟩
theorem Paired.iT(g:Gr ρ H ρ' H')(h:VH (λ(p:Key × PV) (q:Key × V)=>p.1=q.1∧rel K ρ H p.2 q.2) kvs kws) :
  VH (λ(p) (q)=>p.1=q.1/\rel K ρ' H' p.2 q.2) kvs kws:=Paired.zE h λ_ _ z=>⟨z.1,rel.gr g _ _ z.2⟩
theorem hX(m:o.fB=true)(r:kX K ρ H a o):(∃ vs,H a=fv (.lst vs))\/ ∃ kws,H a=fv (.dK kws):=by
 cases o with
 | lst xs=>obtain⟨vs,e,_⟩:=r;exact .inl ⟨vs,e⟩
 | jX xs=>cases m
 | dct kvs=>obtain⟨kws,e,_⟩:=r;exact .inr ⟨kws,e⟩
theorem kE(g:Gr ρ H ρ' H')(k:o.fB=true->H' a=H a)(r:kX K ρ H a o):kX K ρ' H' a o:=by
 cases o with
 | lst xs=>obtain⟨vs,e,r⟩:=r;exact⟨vs,(k rfl).trans e,aq.gr g _ _ r⟩
 | jX xs=>obtain ⟨vs,e,r⟩:=r;exact ⟨vs,g.Up e,aq.gr g _ _ r⟩
 | dct kvs=>obtain ⟨kws,e,r⟩:=r;exact ⟨kws,(k rfl).trans e,Paired.iT g r⟩
theorem Gr.new{p : U0}{o : HO}(hp : H p = UB)(l : List U0) : Gr ρ H (ρ ++ l) (upd H p o) :=
  ⟨λn a e => by rw [Vj (UJ.mp e).1]; exact e,
   λa xs e => by rw [ax (ay e hp)]; exact e, λa o u e => by rw [ax (ay e hp)]; exact e⟩
theorem Gr.wI{p:U0}{o:HO}(hp:H p=UB):Gr ρ H ρ (upd H p o):=by simpa using Gr.new (ρ := ρ) (o:=o) hp []
theorem cG.tup(s:cG K ρ h H){p o}(hp:H p=UB):cG K ρ h (upd H p o) :=
 ⟨s.len,s.nd,λi x a e1 e2=>kE (Gr.wI hp) (λm=>by
  have:=hX m (s.ob i x a e1 e2);refine ax ?_;rcases this with⟨_,z⟩ | ⟨_,z⟩<;>exact ay z hp) (s.ob i x a e1 e2)⟩
theorem cG.new(s:cG K ρ h H)(hp:H p=UB)(r:kX K (ρ ++[p]) (upd H p ho) p o):cG K (ρ ++[p]) (h++[o]) (upd H p ho):=by
 have g:Gr ρ H (ρ ++[p]) (upd H p ho):=Gr.new hp [p];have old: ∀{i:Nat}{x:PO},(h++[o])[i]?=fv x->(i < h.length/\h[i]?=fv x)\/(i=h.length/\x=o):=λ{i x} e=>by
  rcases Wu i h.length with z | z
  . rw[Vj z] at e;exact .inl ⟨z,e⟩
  . rw[Vd z] at e;have:i - h.length=0:=by
     grind
    rw[this] at e;exact .inr ⟨by omega,by simpa using e.symm⟩
 have oldρ : ∀{i:Nat}{a:U0},i < h.length->(ρ ++[p])[i]?=fv a-> ρ[i]?=fv a:=λ{i a} z e=>by
  rw[Vj (by rw[s.len];exact z)] at e;exact e
 have newρ : ∀{a:U0},(ρ ++[p])[h.length]?=fv a->a=p:=λ{a} e=>by
  rw[<- s.len,Vd (UL _)] at e;simpa using e.symm
 refine⟨by simp[s.len],λi j a oi oj ei ej mi mj ri rj=>?_,λi x a e1 e2=>?_⟩
 . rcases old ei with⟨zi,ei⟩ | ⟨zi,ei⟩<;>rcases old ej with⟨zj,ej⟩ | ⟨zj,ej⟩
   . exact s.nd i j a oi oj ei ej mi mj (oldρ zi ri) (oldρ zj rj)
   . subst zj;have:=hX mi (s.ob i oi a ei (oldρ zi ri));rw[newρ rj] at this;rcases this with⟨_,z⟩ | ⟨_,z⟩<;>(rw[hp] at z;nomatch z)
   . subst zi;have:=hX mj (s.ob j oj a ej (oldρ zj rj));rw[newρ ri] at this;rcases this with⟨_,z⟩ | ⟨_,z⟩<;>(rw[hp] at z;nomatch z)
   . rw[zi,zj]
 . rcases old e1 with⟨z,e⟩ | ⟨z,e⟩
   . refine kE g (λm=>?_) (s.ob i x a e (oldρ z e2));have:=hX m (s.ob i x a e (oldρ z e2));refine ax ?_;rcases this with ⟨_,y⟩ | ⟨_,y⟩<;>exact ay y hp
   . subst z;subst e;rw [newρ e2];exact r
theorem Gr.write{a : U0}{ho : HO}(m : (∃ vs, H a = fv (.lst vs)) ∨ ∃ kws, H a = fv (.dK kws)) : Gr ρ H ρ (upd H a ho) :=
  ⟨fun _ _ h => h, fun b xs e => by rw [ax]; · exact e
                                    . rintro rfl; rcases m with ⟨_, z⟩ | ⟨_, z⟩ <;> (rw [e] at z; cases z),
   fun b o u e => by rw [ax]; · exact e
                     . rintro rfl; rcases m with ⟨_, z⟩ | ⟨_, z⟩ <;> (rw [e] at z; cases z)⟩
theorem cG.write(s:cG K ρ h H)(e:h[i]?=fv o)(ea: ρ[i]?=fv a)(m:o.fB=true)(m':o'.fB=true)(r:kX K ρ (upd H a ho) a o') :
  cG K ρ (h.set i o') (upd H a ho):=by
 have ma:=hX m (s.ob i o a e ea);have g:Gr ρ H ρ (upd H a ho):=Gr.write ma;have hi:=(UJ.mp e).1;have at_: ∀{j:Nat}{x:PO},(h.set i o')[j]?=fv x->(j=i/\x=o')\/(j≠i/\h[j]?=fv x):=λ{j x} q=>by
  by_cases z:j=i
  . subst z;rw[VS hi] at q;exact .inl ⟨rfl,by simpa using q.symm⟩
  . rw[Ww (W2 z)] at q;exact .inr ⟨z,q⟩
 refine⟨by simp[s.len],λj k b oj ok ej ek mj mk rj rk=>?_,λj x b e1 e2=>?_⟩
 . rcases at_ ej with⟨zj,_⟩ | ⟨_,ej2⟩<;>rcases at_ ek with⟨zk,_⟩ | ⟨_,ek2⟩
   . rw[zj,zk]
   . rw[zj] at rj ⊢; exact s.nd _ _ b o ok e ek2 m mk rj rk
   . rw[zk] at rk ⊢; exact s.nd _ _ b oj o ej2 e mj m rj rk
   . exact s.nd j k b oj ok ej2 ek2 mj mk rj rk
 . rcases at_ e1 with⟨rfl,rfl⟩ | ⟨z,e1⟩
   . simp_all
   . refine kE g (λmx=>ax λq=>z ?_) (s.ob j x b e1 e2);subst q;exact s.nd j i b x o e1 e mx m e2 ea
end
inductive RV(α :Type) where
 | ok (a: α) (h:PH) | ex (c:String) (vs:List PV) (h:PH) | no
variable{α β :Type}
noncomputable def RV.bind:RV α ->(α ->PH->RV β)->RV β
 | .ok a h,f=>f a h
 | .ex c vs h,_=> .ex c vs h
 | .no,_=> .no
theorem qJ:(RV.ok a h).bind f=f a h:=rfl
theorem bind_eq{r:RV α}:r.bind f= .ok b h'↔ ∃ a h,r= .ok a h/\f a h= .ok b h':=by
 cases r with
 | ok a h=>exact⟨λe=>⟨a,h,rfl,e⟩,by rintro ⟨a',h2,e,q⟩;exact by cases e;exact q⟩
 | ex c vs h=>exact⟨λe=>(by cases e),by simp_all⟩
 | no=>exact⟨λe=>(by cases e),by simp_all⟩
theorem Bj[Decidable c]{ b:RV α}:(if c then a else b).bind f=if c then a.bind f else b.bind f:=by split<;>rfl
def Ok(r:RV α)(Q: α ->PH->Prop):= ∃ a h,r= .ok a h/\Q a h
abbrev CF:=String->List PV->PH->RV PV
abbrev ME:=CF->aZ->PH->RV PV
abbrev MT:=CF->aZ->PH->RV Bool
abbrev MA:=CF->aZ->PH->RV (List PV)
inductive Fl where
 | nx (e:aZ) | rt (v:PV) | bk (e:aZ) | ct (e:aZ)
abbrev MS:=CF->aZ->PH->RV Fl
abbrev MG:=PV->aZ->PH->RV aZ
structure va where
 gd:Option Nat
 items:List PV
abbrev MI:=CF->aZ->PH->RV va
structure Df where
 ps:List Str
 nl:Nat
 body:MS
structure Tb where
 fns:String->Option Df
 con:Str->Option PV
 xa:Str->Option (List (Key × PV))
def bK(n:Nat):PH->PH->Bool
 | [],_=>true
 | _::_,[]=>false
 | o::h,o'::h'=>(decide (o=o')||(o'.i6 n&&o.fB == o'.fB))&&bK n h h'
def settle(h:PH)(v:PV)(h':PH):RV PV:=if (v.flat&&bK h.length h h')=true then .ok v (h'.take h.length) else .ok v h'
theorem jH n: ∀ h g,bK n h (h++g)=true
 | [],g=>rfl
 | o::h,g=>by rw[abw,bK,jH n h g];simp
theorem mY(hu:o'.i6 n=true): ∀ h h' i o,bK n h h'=true->h[i]?=fv o->o.fB=o'.fB->bK n h (h'.set i o')=true
 | [],h',i,o,_,e,_=>by simp at e
 | a::h,[],i,o,q,_,_=>by simp[bK] at q
 | a::h,b::h',0,o,q,e,m=>by
  rw[bK,U3] at q;simp at e;subst e;rw[List.set_cons_zero,bK,q.2,hu,m];simp
 | a::h,b::h',i+1,o,q,e,m=>by
  rw[bK,U3] at q;rw[YX,bK,mY hu h h' i o q.2 (by simpa using e) m,q.1];rfl
theorem nZ: ∀{h h'},bK n h h'=true->h.length<=h'.length
 | [],h',_=>Vw _
 | o::h,[],e=>by simp[bK] at e
 | o::h,o'::h',e=>by
  rw[bK,U3] at e;exact abx (nZ e.2)
theorem pT: ∀{h h'}{i:Nat}{o'},bK n h h'=true->(h'.take h.length)[i]?=fv o'-> ∃ o,h[i]?=fv o/\o.fB=o'.fB/\(o=o'\/o'.i6 n=true)
 | [],h',i,o',_,e=>by simp at e
 | a::h,[],i,o',q,_=>by simp[bK] at q
 | a::h,b::h',0,o',q,e=>by
  rw[bK,U3,Yx,U3] at q;simp at e;subst e;refine⟨a,rfl,?_,?_⟩
  . rcases q.1 with z | z
    . rw[of_decide_eq_true z]
    . simpa using z.2
  . rcases q.1 with z | z
    . exact .inl (of_decide_eq_true z)
    . exact .inr z.1
 | a::h,b::h',i+1,o',q,e=>by
  rw[bK,U3] at q;simpa using pT q.2 (by simpa using e)
def run(pg:Tb):Nat->CF
 | 0,_,_,_=> .no
 | k+1,f,vs,h=>match pg.fns f with
  | none=> .no
  | some d=>if vs.length=d.ps.length then
    (match d.body (run pg k) (vs.map fv++UN d.nl UB) h with
    | .ok (.rt v) h'=>settle h v h'
    | .ok (.nx _) h'=>settle h .non h'
    | .ok _ _=> .no
    | .ex c us h'=> .ex c us h'
    | .no=> .no)
   else .no
def dN(K:UC)(ρ :List U0) H v h' (Q:VK):= ∀ v' ρ' H',Gr ρ H ρ' H'->cG K ρ' h' H'->rel K ρ' H' v v'->Q v' H'
def lA(K:UC)(ρ :List U0) H h' (Q:Hp->Prop):= ∀ ρ' H',Gr ρ H ρ' H'->cG K ρ' h' H'->Q H'
def NY(K:UC)(ρ :List U0) H (vs:List PV) h' (Q:List V->Hp->Prop):= ∀ us ρ' H',Gr ρ H ρ' H'->cG K ρ' h' H'->aq K ρ' H' vs us->Q us H'
structure dM (K:UC) (ρ :List U0) (H:Hp) (e:aZ) (σ :L2.St):Prop where
 len:e.length= σ.length
 get: ∀(i:Nat)(v:PV),e[i]?=fv (fv v)-> ∃ v', σ[i]?=fv (fv v')∧rel K ρ H v v'
def fH(K:UC)(ρ :List U0) H e' h' (Q:L2.St->Hp->Prop):= ∀ σ' ρ' H',Gr ρ H ρ' H'->cG K ρ' h' H'->dM K ρ' H' e' σ'->Q σ' H'
def w9(K:UC)(ρ :List U0)(H:Hp)(D:Ends)(h':PH):Fl->Prop
 | .nx e=>fH K ρ H e h' D.nx
 | .bk e=>fH K ρ H e h' D.bk
 | .ct e=>fH K ρ H e h' D.ct
 | .rt v=>dN K ρ H v h' D.rt
section
variable{K:UC}{ρ ρ1:List U0}{H H1:Hp}{h':PH}
theorem dM.gr(r:dM K ρ H e σ)(g:Gr ρ H ρ1 H1):dM K ρ1 H1 e σ :=⟨r.len,λi v q=>by obtain⟨v',a,b⟩:=r.get i v q;exact⟨v',a,rel.gr g _ _ b⟩⟩
theorem dM.set(r:dM K ρ H e σ) i (h:rel K ρ H v v'):dM K ρ H (e.set i (fv v)) (σ.set i (fv v')):=by
 refine⟨by simp[r.len],λj x q=>?_⟩;by_cases z:j=i
 . subst z;have hj:j < e.length:=by
    have:=(UJ.mp q).1;simpa using this
   rw[VS hj] at q;cases q;exact⟨v',VS (by rw[<- r.len];exact hj),h⟩
 . rw[Ww (W2 z)] at q ⊢;exact r.get j x q
theorem dM.more(r:dM K ρ H e σ) k:dM K ρ H (e++UN k UB) (σ ++UN k UB):=by
 refine⟨by simp[r.len],λj x q=>?_⟩;rcases Wu j e.length with z | z
 . rw[Vj z] at q;rw[Vj (by rw[<- r.len];exact z)];exact r.get j x q
 . rw[Vd z,W8] at q;split at q<;>nomatch q
theorem dN.gr(p:dN K ρ H v h' Q)(g:Gr ρ H ρ1 H1):dN K ρ1 H1 v h' Q:=λv' ρ' H' g'=>p v' ρ' H' (g.trans g')
theorem lA.gr(p:lA K ρ H h' Q)(g:Gr ρ H ρ1 H1):lA K ρ1 H1 h' Q:=fun ρ' H' g'=>p ρ' H' (g.trans g')
theorem fH.gr(p:fH K ρ H e h' Q)(g:Gr ρ H ρ1 H1):fH K ρ1 H1 e h' Q:=λv' ρ' H' g'=>p v' ρ' H' (g.trans g')
theorem w9.gr(p:w9 K ρ H D h' f)(g:Gr ρ H ρ1 H1):w9 K ρ1 H1 D h' f:=by
 cases f with
 | nx e=>exact fH.gr p g
 | bk e=>exact fH.gr p g
 | ct e=>exact fH.gr p g
 | rt e=>exact dN.gr p g
end
def SE c (K:UC) (t:TE) (m:ME):= ∀ ρ h H e σ Q v h',cG K ρ h H->dM K ρ H e σ ->m c e h= .ok v h'->dN K ρ H v h' Q->t σ H Q
def ST c (K:UC) (t:TT) (m:MT):= ∀ ρ h H e σ Q b h',cG K ρ h H->dM K ρ H e σ ->m c e h= .ok b h'->lA K ρ H h' (Q b)->t σ H Q
def SA c (K:UC) (t:TA) (m:MA):= ∀ ρ h H e σ Q vs h',cG K ρ h H->dM K ρ H e σ ->m c e h= .ok vs h'->NY K ρ H vs h' Q->t σ H Q
def SS c (K:UC) (t:TS) (m:MS):= ∀ ρ h H e σ D f h',cG K ρ h H->dM K ρ H e σ ->m c e h= .ok f h'->w9 K ρ H D h' f->t D σ H
def SG(K:UC)(t:TG)(m:MG):= ∀ ρ h H e σ Q v v' e' h',cG K ρ h H->dM K ρ H e σ ->rel K ρ H v v'->m v e h= .ok e' h'->fH K ρ H e' h' Q->t v' σ H Q
noncomputable def va.lY(it:va)(h:PH):Bool:=match it.gd with
 | none=>true
 | some n=>decide (h[n]?=fv (.lst it.items)\/h[n]?=fv (.jX it.items))
def Tc(K:UC)(ρ0:List U0) H0 (J:It) (it:va):= ∀ i ρ h H,Gr ρ0 H0 ρ H->cG K ρ h H->it.lY h=true ->
 (∀ x,it.items[i]?=fv x->J.go i H∧ ∀ v H',J.Hl i H v H'-> ∃ ρ',Gr ρ H ρ' H'∧cG K ρ' h H'∧rel K ρ' H' x v)∧(i=it.items.length->J.stop i H)
def SI c (K:UC) (t:TI) (m:MI):= ∀ ρ h H e σ R it h',cG K ρ h H->dM K ρ H e σ ->m c e h= .ok it h'->(∀ ρ' H' J,Gr ρ H ρ' H'->cG K ρ' h' H'->Tc K ρ' H' J it->R J H')->t σ H R
def vE(K:UC)(pg:Tb)(k:Nat)(f:String):Sp:=λvs H Q _=> ∃ ρ h args v h',cG K ρ h H∧aq K ρ H args vs∧run pg k f args h= .ok v h'∧dN K ρ H v h' Q
noncomputable def gh:List Str:=["len", "range", "isinstance", "int", "bool", "tuple", "dict", "sorted", "min", "max", "abs", "all", "any", "sum", "str", "list", "zip", "set", "repr", "enumerate"]
def yS(K:UC)(v:V):= ∀ a,v= .ref a-> ∃ o,K.lookup a=fv o∧o.cls= .type "tuple" ∧o.dict=UB
structure b6 (X:Cx) (pg:Tb) (k:Nat):Prop where
 room:cO k X.A
 calm:X.calm=true
 sC: ∀ v s,¬ X.xe v s
 defs: ∀ f d,pg.fns f=fv d->lC X.prog X.w X.K X.mg X.base (UI f) k d.ps (vE X.K pg k f)
 blt: ∀ x∈gh,X.mg x=UB
 con: ∀ x v,pg.con x=fv v-> ∃ u v',X.mg x=fv u/\RelV v' u/\yS X.K v'/\ ∀ ρ H,rel X.K ρ H v v'
 xa: ∀ x kvs,pg.xa x=fv kvs-> ∃ a kws,X.mg x=fv (.ref a)/\KD X.prog X.w X.K a kws/\ ∀ ρ H,VH (λ(p:Key × PV) (q:Key × V)=>p.1=q.1/\rel X.K ρ H p.2 q.2) kvs kws
theorem b6.d7(a:b6 X pg k) vars scope cl C s₀ H₀ ex pn:b6 (d7 X vars scope cl C s₀ H₀ ex pn) pg k :=
 ⟨a.room,a.calm,a.sC,a.defs,a.blt,a.con,a.xa⟩
structure JE(X:Cx)(pg:Tb)(k:Nat)(e:Vu)(m:ME):Prop where h:b6 X pg k-> ∃ t,QE X e t/\SE (run pg k) X.K t m
structure JT(X:Cx)(pg:Tb)(k:Nat)(e:Vu)(m:MT):Prop where h:b6 X pg k-> ∃ t,QT X e t/\ST (run pg k) X.K t m
structure JW(X:Cx)(pg:Tb)(k:Nat)(e:Vu)(m:MT):Prop where h:b6 X pg k-> ∃ t,QW X e t/\ST (run pg k) X.K t m
structure JA(X:Cx)(pg:Tb)(k:Nat)(e:List Vu)(m:MA):Prop where h:b6 X pg k-> ∃ t,QA X e t/\SA (run pg k) X.K t m
structure JS(X:Cx)(pg:Tb)(k:Nat)(s:Z8)(m:MS):Prop where h:b6 X pg k-> ∃ t,QS X s t/\SS (run pg k) X.K t m
structure zY(X:Cx)(pg:Tb)(k:Nat)(s:List Z8)(m:MS):Prop where h:b6 X pg k-> ∃ t,Dm X s t/\SS (run pg k) X.K t m
structure JG(X:Cx)(pg:Tb)(k:Nat)(e:Vu)(m:MG):Prop where h:b6 X pg k-> ∃ t,QG X e t/\SG X.K t m
structure JI(X:Cx)(pg:Tb)(k:Nat)(tg e:Vu)(m:MI):Prop where h:b6 X pg k-> ∃ t,QI X tg e t/\SI (run pg k) X.K t m
structure JF(X:Cx)(pg:Tb)(k:Nat)(es:List Vu)(m:MT):Prop where h:b6 X pg k-> ∃ t,QF X es t/\ST (run pg k) X.K t m
def lW(K:UC)(r:R2)(f:PV->PV->PH->RV PV):= ∀ ρ h H x y x' y' Q v h',cG K ρ h H->rel K ρ H x x'->rel K ρ H y y'->f x y h= .ok v h'->dN K ρ H v h' Q->r x' y' H Q
def xH(K:UC)(r:List V->Hp->VK->Prop)(f:List PV->PH->RV PV):= ∀ ρ h H xs us Q v h',cG K ρ h H->aq K ρ H xs us->f xs h= .ok v h'->dN K ρ H v h' Q->r us H Q
def MY(K:UC)(T:String)(r:V->List V->Hp->VK->Prop)(f:PV->List PV->PH->RV PV)(ty:PV->PH->Bool) :=
 (∀ ρ h H x x',cG K ρ h H->rel K ρ H x x'->ty x h=true->Pm K T x' H) /\
 ∀ ρ h H x x' xs us Q v h',cG K ρ h H->rel K ρ H x x'->aq K ρ H xs us->f x xs h= .ok v h'->dN K ρ H v h' Q->r x' us H Q
noncomputable def aa(i:Nat):ME:=λ_ e h=>match e[i]? with
 | some (fv v)=> .ok v h
 | _=> .no
noncomputable def eC(v:PV):ME:=λ_ _ h=> .ok v h
def ao(f:PV->PV->PH->RV PV)(a b:ME):ME:=λc e h=>(a c e h).bind λx h1=>(b c e h1).bind λy h2=>f x y h2
def u9(f:PV->PH->RV PV)(a:ME):ME:=λc e h=>(a c e h).bind f
noncomputable def sA(v:PV)(h:PH):RV Bool:=match v with
 | .bl b=> .ok b h
 | _=> .no
def yj(a b:ME):ME:=λc e h=>((a c e h).bind sA).bind λx h1=>if x=true then b c e h1 else .ok (.bl false) h1
def Nw(a b:ME):ME:=λc e h=>((a c e h).bind sA).bind λx h1=>if x=true then .ok (.bl true) h1 else b c e h1
def Fy(a:ME):ME:=λc e h=>((a c e h).bind sA).bind λx h1=> .ok (.bl (!x)) h1
def vd(t:MT)(a b:ME):ME:=λc e h=>(t c e h).bind λx h1=>if x=true then a c e h1 else b c e h1
def aA(a:ME):MT:=λc e h=>(a c e h).bind sA
def lX(a b:MT):MT:=λc e h=>(a c e h).bind λx h1=>if x=true then b c e h1 else .ok false h1
def zW(a b:MT):MT:=λc e h=>(a c e h).bind λx h1=>if x=true then .ok true h1 else b c e h1
def kK(a:MT):MT:=λc e h=>(a c e h).bind λx h1=> .ok (!x) h1
noncomputable def aS:MT:=λ_ _ h=> .ok true h
noncomputable def ah:MA:=λ_ _ h=> .ok [] h
def ab(a:ME)(r:MA):MA:=λc e h=>(a c e h).bind λx h1=>(r c e h1).bind λxs h2=> .ok (x::xs) h2
noncomputable def kC n (r:RV α):=if n<=UK then r else .no
def av(r:MA):ME:=λc e h=>(r c e h).bind λxs h1=>kC xs.length (.ok (.tup xs) h1)
def aK(r:MA):ME:=λc e h=>(r c e h).bind λxs h1=>kC xs.length (.ok (.ref h1.length) (h1++[.lst xs]))
def ae(f:String)(r:MA):ME:=λc e h=>(r c e h).bind λxs h1=>c f xs h1
def eB(f:List PV->PH->RV PV)(r:MA):ME:=λc e h=>(r c e h).bind f
def eM(f:PV->List PV->PH->RV PV)(ty:PV->PH->Bool)(a:ME)(r:MA):ME:=λc e h=>(a c e h).bind λx h1=>if ty x h1=true then(r c e h1).bind λxs h2=>f x xs h2 else .no
def rf(f g:PV->PV->PH->RV PV)(a b d:ME):ME:=λc e h=>(a c e h).bind λx h1=>(b c e h1).bind λy h2=>((f x y h2).bind sA).bind λk h3=>if k=true then(d c e h3).bind λz h4=>g y z h4 else .ok (.bl false) h3
theorem jr:kC n r= .ok a h↔n<=UK/\r= .ok a h:=by
 unfold kC;split
 . exact⟨λe=>⟨by assumption,e⟩,λe=>e.2⟩
 . exact⟨λe=>(by cases e),λe=>absurd e.1 (by assumption)⟩
theorem nJ:sA v h= .ok b h'↔v= .bl b/\h'=h:=by
 cases v<;>simp[sA,eq_comm]
section
variable{X:Cx}{pg:Tb}{k:Nat}{a b c d e:Vu}{es:List Vu}{ma mb mc md:ME}{mr:MA}{mt mt':MT}{pos p pos' apos cpos:Pos}{x:Str}
theorem JD i (hN:X.N[i]?=fv x:=by rfl) (hv:MV X.env.scope x:=by first | exact abq rfl | exact aaq (abq rfl) | exact aaq (aaq rfl)) (hd:(x == ("__debug__"))=false:=by decide)
  (hcd:(x == ("__classdict__"))=false:=by decide):JE X pg k (.Name x pos) (aa i):=⟨λA=>⟨_,qv i hN hv hd hcd,fun ρ h H e σ Q v h' s r q P=>by
 unfold aa at q;split at q
 . cases q;obtain⟨v',e1,e2⟩:=r.get i v (by assumption);exact⟨v',e1,P v' ρ H (.refl _ _) s e2⟩
 . cases q⟩⟩
theorem zO{K}(hr: ∀ ρ H,rel K ρ H v v'):SE cf K (tC v') (eC v):=fun ρ h H e σ Q w h' s r q P=>by cases q;exact P v' ρ H (.refl _ _) s (hr ρ H)
theorem Md:JE X pg k (.Constant (.int n) j pos) (eC (.int n)):=⟨λA=>⟨_,HG,zO fun ρ H=>by rw[rel]⟩⟩
theorem O6:JE X pg k (.Constant (.bool n) j pos) (eC (.bl n)):=⟨λA=>⟨_,Po,zO fun ρ H=>by rw[rel]⟩⟩
theorem HE:JE X pg k (.Constant .none j pos) (eC .non):=⟨λA=>⟨_,KC,zO fun ρ H=>by rw[rel]⟩⟩
theorem IW:JE X pg k (.Constant (.str n) j pos) (eC (.str n)):=⟨λA=>⟨_,Ka,zO fun ρ H=>by rw[rel]⟩⟩
theorem LP(hc:pg.con x=fv v)(hg:Gl X x)(hd:(x == ("__debug__"))=false:=by decide):JE X pg k (.Name x pos) (eC v):=⟨λA=>by obtain⟨u,v',e1,e2,_,e3⟩:=A.con x v hc;exact⟨_,xQ hg e1 e2 hd,zO e3⟩⟩
theorem qc(hg:Gl X x)(hb:x∈gh)(hv:VR x=fv (.type T))(hn:x≠ "__name__" :=by decide)(hd:(x == ("__debug__"))=false:=by decide):JE X pg k (.Name x pos) (eC (.ty T)) :=
 ⟨λA=>⟨_,Em (v:= .ty T) hg (A.blt x hb) hv rfl hn hd,zO fun ρ H=>by rw[rel]⟩⟩
theorem xy{K}(ho:lW K r f)(ha:SE cf K ta ma)(hb:SE cf K tb mb):SE cf K (FZ r ta tb) (ao f ma mb):=fun ρ h H e σ Q v h' s r q P=>by
 obtain⟨x,h1,e1,q⟩:=bind_eq.mp q;obtain⟨y,h2,e2,q⟩:=bind_eq.mp q;refine ha ρ h H e σ _ x h1 s r e1 λx' ρ1 H1 g1 s1 r1=>?_;refine hb ρ1 h1 H1 e σ _ y h2 s1 (r.gr g1) e2 λy' ρ2 H2 g2 s2 r2=>?_;exact ho ρ2 h2 H2 x y x' y' Q v h' s2 (rel.gr g2 _ _ r1) r2 q (P.gr (g1.trans g2))
theorem Py(ho:b6 X pg k-> ∃ r,cC X (VX op) r/\lW X.K r f)(ha:JE X pg k a ma)(hb:JE X pg k b mb):JE X pg k (.BinOp a op b pos) (ao f ma mb):=⟨λA =>
 let ⟨_,q1,s1⟩:=ha.h A;let ⟨_,q2,s2⟩:=hb.h A;by obtain⟨_,q,s⟩:=ho A;exact⟨_,O9 q q1 q2,xy s s1 s2⟩⟩
theorem C2(ho:b6 X pg k-> ∃ r,cC X (Vf op) r/\lW X.K r f)(ha:JE X pg k a ma)(hb:JE X pg k b mb)(hm:V1 op b=false):JE X pg k (.Compare a [op] [b] pos) (ao f ma mb):=⟨λA =>
 let ⟨_,q1,s1⟩:=ha.h A;let ⟨_,q2,s2⟩:=hb.h A;by obtain⟨_,q,s⟩:=ho A;exact⟨_,FC q q1 q2 hm,xy s s1 s2⟩⟩
theorem qL{K}(ha:SE cf K ta ma):ST cf K (Bv ta) (aA ma):=fun ρ h H e σ Q v h' s r q P=>by
 obtain⟨x,h1,e1,q⟩:=bind_eq.mp q;obtain⟨rfl,rfl⟩:=nJ.mp q;refine ha ρ h H e σ _ _ _ s r e1 λx' ρ1 H1 g1 s1 r1=>?_;exact⟨v,r1,P ρ1 H1 g1 s1⟩
theorem Cp(ho:b6 X pg k-> ∃ r,cC X (Vf op) r/\lW X.K r f)(ha:JE X pg k a ma)(hb:JE X pg k b mb)(hm:V1 op b=false):JT X pg k (.Compare a [op] [b] pos) (aA (ao f ma mb)):=⟨λA =>
 let ⟨_,q1,s1⟩:=ha.h A;let ⟨_,q2,s2⟩:=hb.h A;by obtain⟨_,q,s⟩:=ho A;exact⟨_,Fz q q1 q2 hm,qL (xy s s1 s2)⟩⟩
theorem Lh(ha:JE X pg k e ma)(he: ∀ whole,abl e X.env whole=(do let v <- whole;abR e.pos;Y9 [v] (truthy v)):=by intro _;rfl):JT X pg k e (aA ma):=⟨λA =>
 by obtain⟨_,q1,s1⟩:=ha.h A;exact⟨_,Iz q1 he,qL s1⟩⟩
theorem Lk(ha:JE X pg k a ma):JE X pg k (.UnaryOp .Not a pos) (Fy ma):=⟨λA =>
 by obtain⟨_,q1,s1⟩:=ha.h A;exact⟨_,HW q1,fun ρ h H e σ Q v h' s r q P=>by
  obtain⟨x,h2,q2,q⟩:=bind_eq.mp q;obtain⟨y,h1,e1,q2⟩:=bind_eq.mp q2;obtain⟨rfl,rfl⟩:=nJ.mp q2;cases q;refine s1 ρ h H e σ _ _ _ s r e1 λx' ρ1 H1 g1 z1 r1=>?_;exact⟨x,r1,P _ ρ1 H1 g1 z1 (by rw[rel])⟩⟩⟩
theorem Mg(h:JE X pg k a ma):JE X pg k (.BoolOp op [a] pos) ma:=⟨λA=>by obtain⟨_,q1,s1⟩:=h.h A;exact⟨_,LU q1,s1⟩⟩
theorem Mt{rest}(ha:JE X pg k a ma)(hb:JE X pg k (.BoolOp .And (b::rest) pos) mb):JE X pg k (.BoolOp .And (a::b::rest) pos) (yj ma mb):=⟨λA =>
 by obtain⟨_,q1,s1⟩:=ha.h A;exact by obtain⟨_,q2,s2⟩:=hb.h A;exact⟨_,HP q1 q2,fun ρ h H e σ Q v h' s r q P=>by
  obtain⟨x,h2,q2,q⟩:=bind_eq.mp q;obtain⟨y,h1,e1,q2⟩:=bind_eq.mp q2;obtain⟨rfl,rfl⟩:=nJ.mp q2;refine s1 ρ h H e σ _ _ _ s r e1 λx' ρ1 H1 g1 z1 r1=>?_;refine⟨x,r1,?_⟩;cases x with
  | true=>exact s2 ρ1 _ H1 e σ _ _ _ z1 (r.gr g1) q (P.gr g1)
  | false=>cases q;exact P _ ρ1 H1 g1 z1 (by rw[rel])⟩⟩
theorem ND{rest}(ha:JE X pg k a ma)(hb:JE X pg k (.BoolOp .Or (b::rest) pos) mb):JE X pg k (.BoolOp .Or (a::b::rest) pos) (Nw ma mb):=⟨λA =>
 by obtain⟨_,q1,s1⟩:=ha.h A;exact by obtain⟨_,q2,s2⟩:=hb.h A;exact⟨_,NX q1 q2,fun ρ h H e σ Q v h' s r q P=>by
  obtain⟨x,h2,q2,q⟩:=bind_eq.mp q;obtain⟨y,h1,e1,q2⟩:=bind_eq.mp q2;obtain⟨rfl,rfl⟩:=nJ.mp q2;refine s1 ρ h H e σ _ _ _ s r e1 λx' ρ1 H1 g1 z1 r1=>?_;refine⟨x,r1,?_⟩;cases x with
  | false=>exact s2 ρ1 _ H1 e σ _ _ _ z1 (r.gr g1) q (P.gr g1)
  | true=>cases q;exact P _ ρ1 H1 g1 z1 (by rw[rel])⟩⟩
theorem Cb(hc:JT X pg k c mt)(ha:JE X pg k a ma)(hb:JE X pg k b mb):JE X pg k (.IfExp c a b pos) (vd mt ma mb):=⟨λA =>
 by obtain⟨_,q0,s0⟩:=hc.h A;exact let ⟨_,q1,s1⟩:=ha.h A;let ⟨_,q2,s2⟩:=hb.h A;⟨_,CS q0 q1 q2,fun ρ h H e σ Q v h' s r q P=>by
  obtain⟨x,h1,e1,q⟩:=bind_eq.mp q;refine s0 ρ h H e σ _ _ _ s r e1 fun ρ1 H1 g1 z1=>?_;cases x with
  | true=>exact s1 ρ1 _ H1 e σ _ _ _ z1 (r.gr g1) q (P.gr g1)
  | false=>exact s2 ρ1 _ H1 e σ _ _ _ z1 (r.gr g1) q (P.gr g1)⟩⟩
theorem Eg(ha:JT X pg k a mt):JW X pg k (.BoolOp .And [a] pos) mt:=⟨λA=>by obtain⟨_,q1,s1⟩:=ha.h A;exact⟨_,Ea q1,s1⟩⟩
theorem Iv(ha:JT X pg k a mt):JW X pg k (.BoolOp .Or [a] pos) mt:=⟨λA=>by obtain⟨_,q1,s1⟩:=ha.h A;exact⟨_,HS q1,s1⟩⟩
theorem Cz{rest}(ha:JT X pg k a mt)(hb:JW X pg k (.BoolOp .And (b::rest) pos) mt'):JW X pg k (.BoolOp .And (a::b::rest) pos) (lX mt mt'):=⟨λA =>
 by obtain⟨_,q1,s1⟩:=ha.h A;exact by obtain⟨_,q2,s2⟩:=hb.h A;exact⟨_,Lj q1 q2,fun ρ h H e σ Q v h' s r q P=>by
  obtain⟨x,h1,e1,q⟩:=bind_eq.mp q;refine s1 ρ h H e σ _ _ _ s r e1 fun ρ1 H1 g1 z1=>?_;cases x with
  | true=>exact s2 ρ1 _ H1 e σ _ _ _ z1 (r.gr g1) q (P.gr g1)
  | false=>cases q;exact P ρ1 H1 g1 z1⟩⟩
theorem Hb{rest}(ha:JT X pg k a mt)(hb:JW X pg k (.BoolOp .Or (b::rest) pos) mt'):JW X pg k (.BoolOp .Or (a::b::rest) pos) (zW mt mt'):=⟨λA =>
 by obtain⟨_,q1,s1⟩:=ha.h A;exact by obtain⟨_,q2,s2⟩:=hb.h A;exact⟨_,Oc q1 q2,fun ρ h H e σ Q v h' s r q P=>by
  obtain⟨x,h1,e1,q⟩:=bind_eq.mp q;refine s1 ρ h H e σ _ _ _ s r e1 fun ρ1 H1 g1 z1=>?_;cases x with
  | false=>exact s2 ρ1 _ H1 e σ _ _ _ z1 (r.gr g1) q (P.gr g1)
  | true=>cases q;exact P ρ1 H1 g1 z1⟩⟩
theorem JW.pt(h:JW X pg k e mt):JT X pg k e mt:=⟨λA=>by obtain⟨_,q1,s1⟩:=h.h A;exact⟨_,q1.pt,s1⟩⟩
theorem Ji(ha:JT X pg k a mt):JT X pg k (.UnaryOp .Not a pos) (kK mt):=⟨λA=>by obtain⟨_,q1,s1⟩:=ha.h A;exact⟨_,Mf q1,fun ρ h H e σ Q v h' s r q P=>by
  obtain⟨x,h1,e1,q⟩:=bind_eq.mp q;cases q;exact s1 ρ h H e σ _ _ _ s r e1 fun ρ1 H1 g1 z1=>P ρ1 H1 g1 z1⟩⟩
theorem Io:JF X pg k [] aS:=⟨λA=>⟨_,LY,fun ρ h H e σ Q v h' s r q P=>by cases q;exact P ρ H (.refl _ _) s⟩⟩
theorem MC(h:JT X pg k c mt):JF X pg k [c] mt:=⟨λA=>by obtain⟨_,q1,s1⟩:=h.h A;exact⟨_,LM q1,s1⟩⟩
theorem LV:JA X pg k [] ah:=⟨λA=>⟨_,vT,fun ρ h H e σ Q v h' s r q P=>by cases q;exact P [] ρ H (.refl _ _) s (bP.mpr rfl)⟩⟩
theorem DJ(ha:JE X pg k e ma)(hr:JA X pg k es mr)(hs:noStar e=true:=by rfl):JA X pg k (e::es) (ab ma mr):=⟨λA =>
 by obtain⟨_,q1,s1⟩:=ha.h A;exact by obtain⟨_,q2,s2⟩:=hr.h A;exact⟨_,qk q1 q2 hs,fun ρ h H e σ Q v h' s r q P=>by
  obtain⟨x,h1,e1,q⟩:=bind_eq.mp q;obtain⟨xs,h2,e2,q⟩:=bind_eq.mp q;cases q;refine s1 ρ h H e σ _ _ _ s r e1 λx' ρ1 H1 g1 z1 r1=>?_;refine s2 ρ1 h1 H1 e σ _ _ _ z1 (r.gr g1) e2 λus ρ2 H2 g2 z2 r2=>?_;exact P _ ρ2 H2 (g1.trans g2) z2 (au.mpr ⟨x',us,rfl,rel.gr g2 _ _ r1,r2⟩)⟩⟩
theorem Ig(h:JA X pg k es mr):JE X pg k (.Tuple es x1 pos) (av mr):=⟨λA =>
 by obtain⟨_,q1,s1⟩:=h.h A;exact⟨_,Mp q1,fun ρ h H e σ Q v h' s r q P=>by
  obtain⟨xs,h1,e1,q⟩:=bind_eq.mp q;obtain⟨hl,q⟩:=jr.mp q;cases q;refine s1 ρ h H e σ _ _ _ s r e1 λus ρ1 H1 g1 z1 r1=>⟨by rw[<- r1.len];exact hl,λp hp=>?_⟩
  refine P _ ρ1 _ (g1.trans (Gr.wI hp)) (z1.tup hp) ?_;exact⟨p,us,rfl,a9,aq.gr (Gr.wI hp) _ _ r1⟩⟩⟩
theorem cX{K}(s:cG K ρ h H)(r:aq K ρ H xs us)(P:dN K ρ H (.ref h.length) (h++[.lst xs]) Q) p (hp:H p=UB):Q (.ref p) (upd H p (.lst us)):=by
 refine P _ (ρ ++[p]) _ (Gr.new hp [p]) (s.new hp ⟨us,a9,aq.gr (Gr.new hp [p]) _ _ r⟩) ?_;exact⟨p,by rw[<- s.len,Vd (UL _)];simp,rfl⟩
theorem Ia(h:JA X pg k es mr):JE X pg k (.List es pos) (aK mr):=⟨λA =>
 by obtain⟨_,q1,s1⟩:=h.h A;exact⟨_,HU q1,fun ρ h H e σ Q v h' s r q P=>by
  obtain⟨xs,h1,e1,q⟩:=bind_eq.mp q;obtain⟨hl,q⟩:=jr.mp q;cases q;exact s1 ρ h H e σ _ _ _ s r e1 λus ρ1 H1 g1 z1 r1=>⟨by rw[<- r1.len];exact hl,λp hp=>cX z1 r1 (P.gr g1) p hp⟩⟩⟩
theorem Fn{d}(hf:pg.fns f=fv d)(hg:Gl X (UI f))(ha:JA X pg k (e::es) mr)(hdb:(UI f == ("__debug__"))=false:=by decide)(he:noStar e=true:=by rfl)(hpl:es.all noStar=true:=by rfl) :
  JE X pg k (.Call (.Name (UI f) p) (e::es) [] pos) (ae f mr):=⟨λA =>
 by obtain⟨_,q1,s1⟩:=ha.h A;exact⟨_,qd (A.defs f d hf) A.room hg (UL _) q1 hdb he hpl,fun ρ h H e σ Q v h' s r q P=>by
  obtain⟨xs,h1,e1,q⟩:=bind_eq.mp q;refine s1 ρ h H e σ _ _ _ s r e1 λus ρ1 H1 g1 z1 r1=>?_;rw[Vp];exact⟨ρ1,h1,xs,v,h',z1,r1,q,P.gr g1⟩⟩⟩
theorem OU{K}(ho:xH K r f)(ha:SA cf K ta mr):SE cf K (HN r ta) (eB f mr):=fun ρ h H e σ Q v h' s r q P=>by
 obtain⟨xs,h1,e1,q⟩:=bind_eq.mp q;exact ha ρ h H e σ _ _ _ s r e1 λus ρ1 H1 g1 z1 r1=>ho ρ1 h1 H1 xs us Q v h' z1 r1 q (P.gr g1)
theorem Cy{id}(hc:b6 X pg k-> ∃ r,aM X (.builtin id) r/\xH X.K r f)(hg:Gl X x)(hb:x∈gh)(hv:VR x=fv (.builtin id))(ha:JA X pg k (e::es) mr)
  (hn:x≠ "__name__" :=by decide) (hdb:(x == ("__debug__"))=false:=by decide) (he:noStar e=true:=by rfl) (hpl:es.all noStar=true:=by rfl):JE X pg k (.Call (.Name x p) (e::es) [] pos) (eB f mr):=⟨λA =>
 by obtain⟨_,q1,s1⟩:=ha.h A;exact by obtain⟨_,q,s⟩:=hc A;exact⟨_,qB q hg (A.blt x hb) hv q1 hn hdb he hpl,OU s s1⟩⟩
theorem Ck(hc:b6 X pg k-> ∃ r,aM X (.type T) r/\xH X.K r f)(hg:Gl X x)(hb:x∈gh)(hv:VR x=fv (.type T))(ha:JA X pg k (e::es) mr)
  (hn:x≠ "__name__" :=by decide) (hdb:(x == ("__debug__"))=false:=by decide) (he:noStar e=true:=by rfl) (hpl:es.all noStar=true:=by rfl):JE X pg k (.Call (.Name x p) (e::es) [] pos) (eB f mr):=⟨λA =>
 by obtain⟨_,q1,s1⟩:=ha.h A;exact by obtain⟨_,q,s⟩:=hc A;exact⟨_,qT q hg (A.blt x hb) hv q1 hn hdb he hpl,OU s s1⟩⟩
theorem Le{id}(pa:aaX T)(slot:Slot T name id)(hty:typeOf (.builtin id)=pure (.type "method_descriptor"))(hm:b6 X pg k-> ∃ r,Di X id r/\MY X.K T r f ty)
  (ho:JE X pg k d md) (ha:JA X pg k [e] mr) (hbase:Xj d name X.env (Wt d X.env)=Wt d X.env:=by rfl) (hline:(apos.endLine == cpos.line)=true:=by rfl) (hs:noStar e=true:=by rfl) :
  JE X pg k (.Call (.Attribute d name apos) [e] [] cpos) (eM f ty md mr):=⟨λA =>
 by obtain⟨_,q0,s0⟩:=ho.h A;exact by obtain⟨_,q1,s1⟩:=ha.h A;exact by obtain⟨_,q,s⟩:=hm A;exact⟨_,Hn pa slot hty q q0 q1 hbase hline hs,fun ρ h H e σ Q v h' z r q P=>by
  obtain⟨x,h1,e1,q⟩:=bind_eq.mp q;refine s0 ρ h H e σ _ _ _ z r e1 λx' ρ1 H1 g1 z1 r1=>?_;split at q
  . rename_i ht;obtain⟨xs,h2,e2,q⟩:=bind_eq.mp q;refine⟨s.1 ρ1 h1 H1 x x' z1 r1 ht,?_⟩;exact s1 ρ1 h1 H1 e σ _ _ _ z1 (r.gr g1) e2 λus ρ2 H2 g2 z2 r2=>s.2 ρ2 h2 H2 x x' xs us Q v h' z2 (rel.gr g2 _ _ r1) r2 q (P.gr (g1.trans g2))
  . simp_all⟩⟩
theorem Bd{K}(ho:lW K r f)(ho':lW K r' g)(ha:SE cf K ta ma)(hb:SE cf K tb mb)(hc:SE cf K tc mc):SE cf K (vz r r' ta tb tc) (rf f g ma mb mc):=fun ρ h H e σ Q v h' s r q P=>by
 obtain⟨x,h1,e1,q⟩:=bind_eq.mp q;obtain⟨y,h2,e2,q⟩:=bind_eq.mp q;obtain⟨z,h3,e3,q⟩:=bind_eq.mp q;obtain⟨z0,h4,e4,e5⟩:=bind_eq.mp e3;obtain⟨rfl,rfl⟩:=nJ.mp e5;refine ha ρ h H e σ _ x h1 s r e1 λx' ρ1 H1 g1 s1 r1=>?_;refine hb ρ1 h1 H1 e σ _ y h2 s1 (r.gr g1) e2 λy' ρ2 H2 g2 s2 r2=>?_;refine ho ρ2 h2 H2 x y x' y' _ _ _ s2 (rel.gr g2 _ _ r1) r2 e4 λz' ρ3 H3 g3 s3 r3=>?_;refine⟨z,r3,?_⟩;cases z with
 | true =>
  obtain⟨w,h5,e5,q⟩:=bind_eq.mp q
  refine hc ρ3 _ H3 e σ _ w h5 s3 (r.gr ((g1.trans g2).trans g3)) e5 λw' ρ4 H4 g4 s4 r4=>?_
  exact ho' ρ4 h5 H4 y w y' w' Q v h' s4 (rel.gr (g3.trans g4) _ _ r2) r4 q (P.gr (((g1.trans g2).trans g3).trans g4))
 | false=>cases q;exact P _ ρ3 H3 ((g1.trans g2).trans g3) s3 (by rw[rel])
theorem BS(ho:b6 X pg k-> ∃ r,cC X (Vf op) r/\lW X.K r f)(ho':b6 X pg k-> ∃ r,cC X (Vf op') r/\lW X.K r g)(ha:JE X pg k a ma)(hb:JE X pg k b mb)(hc:JE X pg k c mc)
  (hm:lastMarks [op,op'] [b,c]=false:=by with_unfolding_all rfl):JE X pg k (.Compare a [op,op'] [b,c] pos) (rf f g ma mb mc):=⟨λA =>
 let ⟨_,q1,s1⟩:=ha.h A;let ⟨_,q2,s2⟩:=hb.h A;let ⟨_,q3,s3⟩:=hc.h A;let ⟨_,q,s⟩:=ho A;let ⟨_,q',s'⟩:=ho' A;⟨_,AA q q' q1 q2 q3 hm,Bd s s' s1 s2 s3⟩⟩
end
noncomputable def bF:MS:=λ_ e h=> .ok (.nx e) h
def ag(a b:MS):MS:=λc e h=>(a c e h).bind λf h1=>match f with
 | .nx e1=>b c e1 h1
 | f=> .ok f h1
def cI(a:ME):MS:=λc e h=>(a c e h).bind λ_ h1=> .ok (.nx e) h1
def ar(a:ME):MS:=λc e h=>(a c e h).bind λv h1=> .ok (.rt v) h1
def bB(t:MT)(a b:MS):MS:=λc e h=>(t c e h).bind λx h1=>if x=true then a c e h1 else b c e h1
noncomputable def ie:MS:=λ_ _ _=> .no
def ai(a:ME)(g:MG):MS:=λc e h=>(a c e h).bind λv h1=>(g v e h1).bind λe1 h2=> .ok (.nx e1) h2
noncomputable def gN(i:Nat):MG:=λv e h=> .ok (e.set i (fv v)) h
noncomputable def gT(n:Nat)(g:List PV->aZ->PH->RV aZ):MG:=λv e h=>match v.seq? with
 | some xs=>if xs.length=n then g xs e h else .no
 | none=> .no
noncomputable def cZ:List PV->aZ->PH->RV aZ:=λvs e h=>match vs with
 | []=> .ok e h
 | _=> .no
def aI(g:MG)(r:List PV->aZ->PH->RV aZ):List PV->aZ->PH->RV aZ:=λvs e h=>match vs with
 | []=> .no
 | v::t=>(g v e h).bind λe1 h1=>r t e1 h1
def pI(f:PV->PV->PV->PH->RV Unit)(o i a:ME):MS:=λc e h=>(a c e h).bind λv h1=>(o c e h1).bind λx h2=>(i c e h2).bind λy h3=>(f x y v h3).bind λ_ h4=> .ok (.nx e) h4
def bh(it:va)(step:PV->aZ->PH->RV Fl):List PV->aZ->PH->RV Fl
 | [],e,h=>if it.lY h=true then .ok (.nx e) h else .no
 | x::xs,e,h=>if it.lY h=true then(step x e h).bind (λf h1=>match f with
   | .nx e1=>bh it step xs e1 h1
   | .ct e1=>bh it step xs e1 h1
   | .bk e1=> .ok (.nx e1) h1
   | .rt v=> .ok (.rt v) h1) else .no
def fZ(i:MI)(g:MG)(b:MS):MS:=λc e h=>(i c e h).bind λit h1=>bh it (λx e h=>(g x e h).bind λe1 h1=>b c e1 h1) it.items e h1
def ia(it:va)(step:PV->PH->RV (Option PV)):List PV->List PV->PH->RV (List PV)
 | [],ys,h=>if it.lY h=true then .ok ys h else .no
 | x::xs,ys,h=>if it.lY h=true/\ys.length < UK then(step x h).bind (λo h1=>match o with
   | some y=>ia it step xs (ys++[y]) h1
   | none=>ia it step xs ys h1) else .no
def aX k (g:MG) (t:MT) (a:ME) c (e:aZ) x h:=(g x (e++UN k UB) h).bind λe2 h2=>(t c e2 h2).bind λb h3=>if b=true then(a c e2 h3).bind (λy h4=> .ok (fv y) h4) else .ok UB h3
def jf(k:Nat)(i:MI)(g:MG)(t:MT)(a:ME):ME:=λc e h=>(i c e h).bind λit h1=>(ia it (aX k g t a c e) it.items [] h1).bind λys h2=> .ok (.ref h2.length) (h2++[.lst ys])
section
variable{X:Cx}{pg:Tb}{k:Nat}{a b c d e o i:Vu}{es:List Vu}{ma mb mc md mo mi:ME}{mr:MA}{mt mt':MT}{ms ms' mu:MS}{pos p pos' apos cpos spos:Pos}{x y:Str}{st:Z8}{body rest:List Z8}{g:MG}{mI:MI}{tg iter:Vu}{gs:List PV->aZ->PH->RV aZ}
theorem OA{c K}:SS c K Ax bF:=fun ρ h H e σ D f h' s r q P=>by cases q;exact P σ ρ H (.refl _ _) s r
theorem LL{c K}(h1:SS c K t ms)(h2:SS c K u mu):SS c K (Kv t u) (ag ms mu):=fun ρ h H e σ D f h' s r q P=>by
 obtain⟨f1,h1',e1,q⟩:=bind_eq.mp q;refine h1 ρ h H e σ _ f1 h1' s r e1 ?_;cases f1 with
 | nx e'=>exact fun σ1 ρ1 H1 g1 s1 r1=>h2 ρ1 h1' H1 e' σ1 D f h' s1 r1 q (P.gr g1)
 | rt v=>cases q;exact P
 | bk e'=>cases q;exact P
 | ct e'=>cases q;exact P
theorem Fh:zY X pg k [] bF:=⟨λA=>⟨_,GF,OA⟩⟩
theorem EH(h:JS X pg k st ms):zY X pg k [st] ms:=⟨λA=>by obtain⟨_,q,s⟩:=h.h A;exact⟨_,E6 q,s⟩⟩
theorem De(h1:JS X pg k st ms)(h2:zY X pg k rest mu):zY X pg k (st::rest) (ag ms mu):=⟨λA=>by obtain⟨_,q1,s1⟩:=h1.h A;exact by obtain⟨_,q2,s2⟩:=h2.h A;exact⟨_,Bp q1 q2,LL s1 s2⟩⟩
theorem Ef(ha:JE X pg k e ma)(hs:Xh e UB pos.line X.env=pure false:=by rfl):JS X pg k (.Expr e pos) (cI ma):=⟨λA=>by obtain⟨_,q1,s1⟩:=ha.h A;exact⟨_,Eu q1 hs,fun ρ h H e σ D f h' s r q P=>by
 obtain⟨x,h1,e1,q⟩:=bind_eq.mp q;cases q;exact s1 ρ h H e σ _ x _ s r e1 λx' ρ1 H1 g1 z1 r1=>P σ ρ1 H1 g1 z1 (r.gr g1)⟩⟩
theorem KL(ha:JE X pg k e ma):JS X pg k (.Return (fv e) pos) (ar ma):=⟨λA=>by obtain⟨_,q1,s1⟩:=ha.h A;exact⟨_,KZ q1,fun ρ h H e σ D f h' s r q P=>by
 obtain⟨x,h1,e1,q⟩:=bind_eq.mp q;cases q;exact s1 ρ h H e σ _ x _ s r e1 P⟩⟩
theorem NZ(hc:JT X pg k c mt)(ha:zY X pg k A ms)(hb:zY X pg k B mu):JS X pg k (.If c A B pos) (bB mt ms mu):=⟨λZ =>
 by obtain⟨_,q0,s0⟩:=hc.h Z;exact let ⟨_,q1,s1⟩:=ha.h Z;let ⟨_,q2,s2⟩:=hb.h Z;⟨_,Nk q0 q1 q2,fun ρ h H e σ D f h' s r q P=>by
  obtain⟨x,h1,e1,q⟩:=bind_eq.mp q;refine s0 ρ h H e σ _ _ _ s r e1 fun ρ1 H1 g1 z1=>?_;cases x with
  | true=>exact s1 ρ1 _ H1 e σ _ _ _ z1 (r.gr g1) q (P.gr g1)
  | false=>exact s2 ρ1 _ H1 e σ _ _ _ z1 (r.gr g1) q (P.gr g1)⟩⟩
theorem AN:JS X pg k st ie:=⟨λA=>⟨_,⟨B2⟩,fun ρ h H e σ D f h' s r q P=>by cases q⟩⟩
theorem xF{K i}:SG K (eF i) (gN i):=fun ρ h H e σ Q v v' e' h' s r rv q P=>by cases q;exact P _ ρ H (.refl _ _) s (r.set i rv)
theorem Fv{i}(hN:X.N.Nodup)(hi:X.N[i]?=fv x)(hx:Loc X.env.scope x)(hf:X.fn x=true\/X.env.scope.names.lookup x=fv .local:=by first | exact .inl rfl | exact .inr rfl | assumption):JG X pg k (.Name x pos) (gN i):=⟨λA=>⟨_,xV hN hi hx hf,xF⟩⟩
structure Og(X:Cx)(pg:Tb)(k:Nat)(e:List Vu)(m:List PV->aZ->PH->RV aZ):Prop where
 h:b6 X pg k-> ∃ t,Lo X e t/\ ∀ ρ h H e σ Q vs us e' h',cG X.K ρ h H->dM X.K ρ H e σ ->aq X.K ρ H vs us->m vs e h= .ok e' h'->fH X.K ρ H e' h' Q->t us σ H Q
theorem EI:Og X pg k [] cZ:=⟨λA=>⟨_,xc,fun ρ h H e σ Q vs us e' h' s r rv q P=>by
 cases vs with
 | nil=>cases q;exact⟨rv,P σ ρ H (.refl _ _) s r⟩
 | cons=>cases q⟩⟩
theorem B1(h1:JG X pg k e g)(h2:Og X pg k es gs)(hs:(VM (e::es) X.env).map (·.2)=Yu e X.env::(VM es X.env).map (·.2):=by rfl):Og X pg k (e::es) (aI g gs):=⟨λA =>
 by obtain⟨_,q1,s1⟩:=h1.h A;exact by obtain⟨_,q2,s2⟩:=h2.h A;exact⟨_,tK q1 q2 hs,fun ρ h H e σ Q vs us e' h' s r rv q P=>by
 cases vs with
 | nil=>cases q
 | cons v t =>
  obtain⟨w,u,rfl,r1,r2⟩:=au.mp rv
  obtain⟨e1,h1,e2,q⟩:=bind_eq.mp q
  refine⟨w,u,rfl,?_⟩
  exact s1 ρ h H e σ _ v w e1 h1 s r r1 e2 fun σ1 ρ1 H1 g1 z1 y1=>s2 ρ1 h1 H1 e1 σ1 Q t u e' h' z1 y1 (aq.gr g1 _ _ r2) q (P.gr g1)⟩⟩
theorem Jr{j}(h:Og X pg k es gs)(hn:(VM es X.env).length=n:=by rfl)(hst:(VM es X.env).findIdx? (·.1)=UB:=by rfl):JG X pg k (.Tuple es j pos) (gT n gs):=⟨λA =>
 by obtain⟨_,q1,s1⟩:=h.h A;exact⟨_,AI A.calm q1 hn hst,fun ρ h H e σ Q v v' e' h' s r rv q P=>by
 unfold gT at q
 split at q
 . rename_i xs ex;obtain⟨a,vs,rfl,z,rr⟩:=rel.seq ex rv;split at q
   . rename_i hl;exact⟨a,vs,rfl,z,by rw[<- rr.len];exact hl,s1 ρ h H e σ Q xs vs e' h' s r rr q P⟩
   . nomatch q
 . nomatch q⟩⟩
theorem II(hN:X.N.Nodup)(hi:X.N[j]?=fv x)(hx:Loc X.env.scope x)(he:JE X pg k e ma)(hs:Xh e (fv (.Name x pos')) pos.line X.env=pure false:=by rfl)(hf:X.fn x=true\/X.env.scope.names.lookup x=fv .local:=by first | exact .inl rfl | exact .inr rfl | assumption) :
  JS X pg k (.Assign [.Name x pos'] e pos) (ai ma (gN j)):=⟨λA=>by obtain⟨_,q1,s1⟩:=he.h A;exact⟨_,Ju hN hi hx q1 hs hf,fun ρ h H e σ D f h' s r q P=>by
 obtain⟨v,h1,e1,q⟩:=bind_eq.mp q;obtain⟨e2,h2,e3,q⟩:=bind_eq.mp q;cases q;cases e3;exact s1 ρ h H e σ _ v _ s r e1 λv' ρ1 H1 g1 z1 r1=>P _ ρ1 H1 g1 z1 ((r.gr g1).set j r1)⟩⟩
theorem Jx(he:JE X pg k e ma)(hg:JG X pg k tg g)(hs:Zi [tg] e pos.line X.env=pure false:=by rfl)(hw:Zj [tg] e X.env=pure UB:=by rfl)(h1:(VM [tg] X.env).map (·.2)=[Yu tg X.env]:=by rfl) :
  JS X pg k (.Assign [tg] e pos) (ai ma g):=⟨λA=>by obtain⟨_,q1,s1⟩:=he.h A;exact by obtain⟨_,q2,s2⟩:=hg.h A;exact⟨_,BB q1 q2 hs hw h1,fun ρ h H e σ D f h' s r q P=>by
 obtain⟨v,h1,e1,q⟩:=bind_eq.mp q;obtain⟨e2,h2,e3,q⟩:=bind_eq.mp q;cases q;exact s1 ρ h H e σ _ v h1 s r e1 λv' ρ1 H1 g1 z1 r1=>s2 ρ1 h1 H1 e σ _ v v' e2 _ z1 (r.gr g1) r1 e3 (fH.gr P g1)⟩⟩
theorem LO(hp:b6 X pg k-> ∃ t,pB X t/\ ∀ ρ h H x y v x' y' v' u h' Q,cG X.K ρ h H->rel X.K ρ H x x'->rel X.K ρ H y y'->rel X.K ρ H v v'->f x y v h= .ok u h'->lA X.K ρ H h' Q->t x' y' v' H Q)
  (ho:JE X pg k o mo) (hi:JE X pg k i mi) (hv:JE X pg k e ma) (hs:Zi [.Subscript o i pos'] e pos.line X.env=pure false:=by rfl) (hw:Zj [.Subscript o i pos'] e X.env=pure UB:=by rfl) (h1:(VM [.Subscript o i pos'] X.env).map (·.2)=[Yu (.Subscript o i pos') X.env]:=by rfl)
  (ha: ∀ v,Yu (.Subscript o i pos') X.env v=(do
   let ov <- Y9 [v] (Wt o X.env)
   let iv <- Y9 [v,ov] (Wt i X.env)
   abR pos'
   Y9 [v,ov,iv] (setItem ov iv v)
   release [v,ov,iv] []):=by intro _;rfl):JS X pg k (.Assign [.Subscript o i pos'] e pos) (pI f mo mi ma):=⟨λA =>
 let ⟨_,q0,s0⟩:=hv.h A;let ⟨_,q1,s1⟩:=ho.h A;let ⟨_,q2,s2⟩:=hi.h A;by obtain⟨_,q3,s3⟩:=hp A;exact⟨_,BB q0 ⟨Iu q1.h q2.h q3 ha⟩ hs hw h1,fun ρ h H e σ D f' h' s r q P=>by
 obtain⟨v,h1,e1,q⟩:=bind_eq.mp q
 obtain⟨x,h2,e2,q⟩:=bind_eq.mp q
 obtain⟨y,h3,e3,q⟩:=bind_eq.mp q
 obtain⟨u,h4,e4,q⟩:=bind_eq.mp q
 cases q
 refine s0 ρ h H e σ _ v h1 s r e1 λv' ρ1 H1 g1 z1 r1=>?_
 refine s1 ρ1 h1 H1 e σ _ x h2 z1 (r.gr g1) e2 λx' ρ2 H2 g2 z2 r2=>?_
 refine s2 ρ2 h2 H2 e σ _ y h3 z2 (r.gr (g1.trans g2)) e3 λy' ρ3 H3 g3 z3 r3=>?_
 have g:=(g1.trans g2).trans g3
 exact s3 ρ3 h3 H3 x y v x' y' v' u _ _ z3 (rel.gr g3 _ _ r2) r3 (rel.gr (g2.trans g3) _ _ r1) e4 fun ρ4 H4 g4 z4=>P σ ρ4 H4 (g.trans g4) z4 (r.gr (g.trans g4))⟩⟩
theorem Jm(hi:JI X pg k tg iter mI)(hg:JG X pg k tg g)(hb:zY X pg k body ms)(hp:PassesOwn (U8 X.prog X.w) X.A X.env X.xe)(hs: ∀ x,Vt iter X.env x=pure x:=by intro _;rfl):JS X pg k (.For tg iter body [] pos) (fZ mI g ms):=⟨λA =>
 by obtain⟨_,q1,s1⟩:=hi.h A;exact by obtain⟨_,q2,s2⟩:=hg.h A;exact by obtain⟨_,q3,s3⟩:=hb.h A;exact⟨_,Kz hp A.calm q1 q2 q3 hs,fun ρ h H e σ D f h' s r q P=>by
 obtain ⟨it,h1,e1,q⟩:=bind_eq.mp q
 refine s1 ρ h H e σ _ it h1 s r e1 fun ρ1 H1 J g1 z1 w1=>?_
 let step:=λx e h=>(g x e h).bind λe1 h1=>ms (run pg k) e1 h1
 refine ⟨λi m σ' H'=> ∃ ρ' h2 e',Gr ρ1 H1 ρ' H'∧cG X.K ρ' h2 H'∧dM X.K ρ' H' e' σ'∧i<=it.items.length∧m=it.items.length - i∧bh it step (it.items.drop i) e' h2= .ok f h',⟨_, ρ1,h1,e,.refl _ _,z1,r.gr g1,Vw _,rfl,q⟩,?_⟩
 rintro i m σ2 H2 ⟨ρ2,h2,e2,g2,z2,r2,hi,rfl,q2⟩
 cases hx:it.items[i]? with
 | none =>
  have hl:=Xx.mp hx
  rw[Wi hl,bh] at q2
  split at q2
  . rename_i hf;cases q2;exact .inl ⟨(w1 i ρ2 _ H2 g2 z2 hf).2 (by omega),P σ2 ρ2 H2 (g1.trans g2) z2 r2⟩
  . cases q2
 | some x =>
  have hlt:=(UJ.mp hx).1
  have hd:it.items.drop i=x::it.items.drop (i+1):=by
   rw[Xw hlt,(UJ.mp hx).2]
  rw[hd,bh] at q2
  split at q2
  . rename_i hf;obtain⟨go,yl⟩:=(w1 i ρ2 _ H2 g2 z2 hf).1 x hx;obtain⟨f3,h3,e3,q3⟩:=bind_eq.mp q2;obtain ⟨e4,h4,e5,q4⟩:=bind_eq.mp e3;refine .inr ⟨go,fun σ' H'=> ∃ ρ' h2 e',Gr ρ1 H1 ρ' H'∧cG X.K ρ' h2 H'∧dM X.K ρ' H' e' σ'∧bh it step (it.items.drop (i+1)) e' h2= .ok f h',?_,?_⟩
    . rintro σ' H' ⟨ρ',h2,e',a1,a2,a3,a4⟩;exact ⟨it.items.length - (i+1),by omega, ρ',h2,e',a1,a2,a3,hlt,rfl,a4⟩
    . intro v H3 hy;obtain ⟨ρ3,g3,z3,r3⟩:=yl v H3 hy;refine s2 ρ3 h2 H3 e2 σ2 _ x v e4 h4 z3 (r2.gr g3) r3 e5 fun σ4 ρ4 H4 g4 z4 r4=>?_;have gg:=(g2.trans g3).trans g4;refine s3 ρ4 h4 H4 e4 σ4 _ f3 h3 z4 r4 q4 ?_;cases f3 with
      | nx e6=>exact fun σ5 ρ5 H5 g5 z5 r5=>⟨ρ5,h3,e6,gg.trans g5,z5,r5,q3⟩
      | ct e6=>exact fun σ5 ρ5 H5 g5 z5 r5=>⟨ρ5,h3,e6,gg.trans g5,z5,r5,q3⟩
      | bk e6=>cases q3;exact fH.gr P (g1.trans gg)
      | rt v=>cases q3;exact dN.gr P (g1.trans gg)
  . simp_all⟩⟩
theorem Hm{K tg}(s1:SI cf K wi mI)(s2:SG K tg g)(s3:ST cf K tt mt)(s4:SE cf K te ma):SE cf K (Q2 n wi tg tt te) (jf n mI g mt ma):=fun ρ h H e σ Q v h' s r q P=>by
 obtain⟨it,h1,e1,q⟩:=bind_eq.mp q;obtain ⟨ys,h2,e2,q⟩:=bind_eq.mp q;cases q;refine s1 ρ h H e σ _ it h1 s r e1 fun ρ1 H1 J g1 z1 w1=>?_;refine ⟨λi m us H'=> ∃ ρ' h3 zs,Gr ρ1 H1 ρ' H'∧cG K ρ' h3 H'∧aq K ρ' H' zs us∧i<=it.items.length∧m=it.items.length - i∧ia it (aX n g mt ma cf e) (it.items.drop i) zs h3= .ok ys h2,⟨_, ρ1,h1,[],.refl _ _,z1,bP.mpr rfl,Vw _,rfl,e2⟩,?_⟩;rintro i m us H2 ⟨ρ2,h3,zs,g2,z2,r2,hi,rfl,q2⟩;cases hx:it.items[i]? with
 | none =>
  have hl:=Xx.mp hx
  rw[Wi hl,ia] at q2
  split at q2
  . rename_i hf;cases q2;exact .inl ⟨(w1 i ρ2 _ H2 g2 z2 hf).2 (by omega),λp hp=>cX z2 r2 (P.gr (g1.trans g2)) p hp⟩
  . cases q2
 | some x =>
  have hlt:=(UJ.mp hx).1
  have hd:it.items.drop i=x::it.items.drop (i+1):=by
   rw[Xw hlt,(UJ.mp hx).2]
  rw[hd,ia] at q2
  split at q2
  . rename_i hf;obtain⟨go,yl⟩:=(w1 i ρ2 _ H2 g2 z2 hf.1).1 x hx;obtain⟨o,h4,e3,q3⟩:=bind_eq.mp q2;obtain⟨e4,h5,e5,q4⟩:=bind_eq.mp e3;obtain⟨b,h6,e6,q5⟩:=bind_eq.mp q4;refine .inr ⟨go,by rw[<- r2.len];exact hf.2,λv H3 hy=>?_⟩;obtain⟨ρ3,g3,z3,r3⟩:=yl v H3 hy;refine s2 ρ3 h3 H3 _ _ _ x v e4 h5 z3 (((r.gr (g1.trans (g2.trans g3)))).more n) r3 e5 fun σ4 ρ4 H4 g4 z4 r4=>?_;refine s3 ρ4 h5 H4 e4 σ4 _ b h6 z4 r4 e6 fun ρ5 H5 g5 z5=>?_;have gg:=((g2.trans g3).trans g4).trans g5;cases b with
    | false=>cases q5;exact ⟨it.items.length - (i+1),by omega, ρ5,_,zs,gg,z5,aq.gr ((g3.trans g4).trans g5) _ _ r2,hlt,rfl,q3⟩
    | true =>
     obtain ⟨y,h7,e7,q6⟩:=bind_eq.mp q5
     cases q6
     refine s4 ρ5 h6 H5 e4 σ4 _ y _ z5 (r4.gr g5) e7 λy' ρ6 H6 g6 z6 r6=>?_
     exact ⟨it.items.length - (i+1),by omega, ρ6,_,zs++[y],gg.trans g6,z6,(aq.gr (((g3.trans g4).trans g5).trans g6) _ _ r2).app (aq.one r6),hlt,rfl,q3⟩
  . simp_all
end
noncomputable def TU(c:CF)(K:UC)(m:ME):TE:=fun σ H Q=> ∃ ρ h e v h',cG K ρ h H∧dM K ρ H e σ ∧m c e h= .ok v h'∧dN K ρ H v h' Q
noncomputable def Sz(c:CF)(K:UC)(m:MT):TT:=fun σ H Q=> ∃ ρ h e b h',cG K ρ h H/\dM K ρ H e σ /\m c e h= .ok b h'/\lA K ρ H h' (Q b)
theorem G6{K}:SE c K (TU c K m) m:=fun ρ h H e σ Q v h' s r q P=>⟨ρ,h,e,v,h',s,r,q,P⟩
theorem Hk{K}:ST c K (Sz c K m) m:=fun ρ h H e σ Q v h' s r q P=>⟨ρ,h,e,v,h',s,r,q,P⟩
theorem JE.O8(j:JE X pg k e m)(A:b6 X pg k):QE X e (TU (run pg k) X.K m) :=
 by obtain⟨_,q,s⟩:=j.h A;exact⟨λpins st σ H Q I=>by rintro ⟨ρ,h,e,v,h',a,b,c,d⟩;exact q.h pins st σ H Q I (s ρ h H e σ Q v h' a b c d)⟩
theorem JF.O8(j:JF X pg k e m)(A:b6 X pg k):QF X e (Sz (run pg k) X.K m) :=
 by obtain⟨_,q,s⟩:=j.h A;exact⟨λpins st σ H Q I=>by rintro ⟨ρ,h,e,v,h',a,b,c,d⟩;exact q.h pins st σ H Q I (s ρ h H e σ Q v h' a b c d)⟩
structure GC(K:UC)(n:Nat)(t:TG)(m:MG):Prop where
 sg:SG K t m
 gk:GK n t
 mono:rq t
structure QK(K:UC)(n:Nat)(t:Dl)(m:List PV->aZ->PH->RV aZ):Prop where
 sg: ∀ ρ h H e σ Q vs us e' h',cG K ρ h H->dM K ρ H e σ ->aq K ρ H vs us->m vs e h= .ok e' h'->fH K ρ H e' h' Q->t us σ H Q
 gk:Ot n t
 mono: ∀ xs σ H Q Q',(∀ σ2 H2,Q σ2 H2->Q' σ2 H2)->t xs σ H Q->t xs σ H Q'
theorem EF{K}(h:n<=i):GC K n (eF i) (gN i):=⟨xF,GQ h,vw⟩
theorem xb{K}:QK K n ze cZ:=⟨fun ρ h H e σ Q vs us e' h' s r rv q P=>by
 cases vs with
 | nil=>cases q;exact⟨rv,P σ ρ H (.refl _ _) s r⟩
 | cons=>exact(by cases q),LG,λxs σ H Q Q' f q=>⟨q.1,f _ _ q.2⟩⟩
theorem jT{K}(a:GC K n t m)(b:QK K n ts ms):QK K n (lD t ts) (aI m ms):=⟨fun ρ h H e σ Q vs us e' h' s r rv q P=>by
 cases vs with
 | nil=>cases q
 | cons v t =>
  obtain⟨w,u,rfl,r1,r2⟩:=au.mp rv
  obtain⟨e1,h1,e2,q⟩:=bind_eq.mp q
  refine⟨w,u,rfl,?_⟩
  exact a.sg ρ h H e σ _ v w e1 h1 s r r1 e2 fun σ1 ρ1 H1 g1 z1 y1=>b.sg ρ1 h1 H1 e1 σ1 Q t u e' h' z1 y1 (aq.gr g1 _ _ r2) q (P.gr g1),Gg a.gk a.mono b.gk,
 λxs σ H Q Q' f=>by rintro ⟨v,r,e,q⟩;exact⟨v,r,e,a.mono _ _ _ _ _ (fun σ2 H2 z=>b.mono _ _ _ _ _ f z) q⟩⟩
theorem B5{K}(b:QK K n ts ms):GC K n (v9 K j ts) (gT j ms):=⟨fun ρ h H e σ Q v v' e' h' s r rv q P=>by
 unfold gT at q;split at q
 . rename_i xs ex;obtain⟨a,vs,rfl,z,rr⟩:=rel.seq ex rv;split at q
   . rename_i hl;exact⟨a,vs,rfl,z,by rw[<- rr.len];exact hl,b.sg ρ h H e σ Q xs vs e' h' s r rr q P⟩
   . nomatch q
 . exact(nomatch q),LB b.gk,λx σ H Q Q' f=>by rintro ⟨a,xs,e1,e2,e3,q⟩;exact⟨a,xs,e1,e2,e3,b.mono _ _ _ _ _ f q⟩⟩
section
variable{X:Cx}{pg:Tb}{k:Nat}{e tg iter:Vu}{ma:ME}{mt:MT}{g:MG}{tG:TG}{mI:MI}{scope:Y7}{ifs:List Vu}{pos spos py:Pos}{y:Str}
theorem t9 vars (hkind:scope.kind= .function) (hlc:gX scope.names X.env.scope.names X.N vars=true) (hi:JI X pg k tg iter mI)
  (hb: ∀ cl C s₀ H₀ ex pn,(b6 X pg k->QG (d7 X vars scope cl C s₀ H₀ ex pn) tg tG)/\JF (d7 X vars scope cl C s₀ H₀ ex pn) pg k ifs mt/\JE (d7 X vars scope cl C s₀ H₀ ex pn) pg k e ma) (hG:GC X.K X.N.length tG g)
  (hs: ∀ x,Vt iter X.env x=pure x:=by intro _;rfl):JE X pg k (.ListComp e [⟨tg,iter,ifs,0⟩] scope pos) (jf vars.length mI g mt ma):=⟨λA =>
 by obtain⟨_,q1,s1⟩:=hi.h A;exact⟨_,CL vars A.calm A.sC hkind hlc q1 (λcl C s₀ H₀ ex pn=>by obtain⟨h1,h2,h3⟩:=hb cl C s₀ H₀ ex pn;exact⟨h1 A,h2.O8 (A.d7 ..),h3.O8 (A.d7 ..)⟩) hG.gk hs,Hm s1 hG.sg Hk G6⟩⟩
theorem uk vars i (hkind:scope.kind= .function) (hlc:gX scope.names X.env.scope.names X.N vars=true) (hN:X.N.Nodup) (hiy:X.N[i]?=fv y) (hy:Loc X.env.scope y) (hi:JI X pg k tg iter mI)
  (hb: ∀ cl C s₀ H₀ ex pn,(b6 X pg k->QG (d7 X vars scope cl C s₀ H₀ ex pn) tg tG)/\JF (d7 X vars scope cl C s₀ H₀ ex pn) pg k ifs mt/\JE (d7 X vars scope cl C s₀ H₀ ex pn) pg k e ma) (hG:GC X.K X.N.length tG g)
  (hsw:Xh (.ListComp e [⟨tg,iter,ifs,0⟩] scope pos) (fv (.Name y py)) spos.line X.env=pure true:=by rfl) (hs: ∀ x,Vt iter X.env x=pure x:=by intro _;rfl)
  (hf:X.fn y=true\/X.env.scope.names.lookup y=fv .local:=by first | exact .inl rfl | exact .inr rfl | assumption) :
  JS X pg k (.Assign [.Name y py] (.ListComp e [⟨tg,iter,ifs,0⟩] scope pos) spos) (ai (jf vars.length mI g mt ma) (gN i)):=⟨λA =>
 by obtain⟨_,q1,s1⟩:=hi.h A;exact⟨_,A9 vars i A.calm A.sC hkind hlc hN hiy hy q1 (λcl C s₀ H₀ ex pn=>let ⟨h1,h2,h3⟩:=hb cl C s₀ H₀ ex pn;⟨h1 A,h2.O8 (A.d7 ..),h3.O8 (A.d7 ..)⟩) hG.gk hsw hs hf,fun ρ h H e σ D f h' s r q P=>by
  obtain⟨v,h1,e1,q⟩:=bind_eq.mp q;obtain⟨e2,h2,e3,q⟩:=bind_eq.mp q;cases q;cases e3;exact Hm s1 hG.sg Hk G6 ρ h H e σ _ v _ s r e1 λv' ρ1 H1 g1 z1 r1=>P _ ρ1 H1 g1 z1 ((r.gr g1).set i r1)⟩⟩
end
section
variable{K:UC}{ρ ρ':List U0}{H H':Hp}{h h':PH}
mutual
theorem rel.flat: ∀(x:PV)(v:V),x.flat=true->rel K ρ' H' x v->rel K ρ H' x v
 | .non,v,_,h=>by simpa only[rel] using h
 | .bl _,v,_,h=>by simpa only[rel] using h
 | .int _,v,_,h=>by simpa only[rel] using h
 | .str _,v,_,h=>by simpa only[rel] using h
 | .ty _,v,_,h=>by simpa only[rel] using h
 | .ref n,v,f,h=>by simp[PV.flat] at f
 | .tup xs,v,f,h=>by
  rw[rel] at h ⊢;rw[PV.flat] at f;obtain⟨a,vs,e,s,r⟩:=h;exact⟨a,vs,e,s,aq.flat xs vs f r⟩
 | .ktup xs,v,f,h=>by
  rw[rel] at h ⊢;rw[PV.flat] at f;obtain⟨a,vs,e,s,r⟩:=h;exact⟨a,vs,e,s,aq.flat xs vs f r⟩
theorem aq.flat: ∀(xs:List PV)(vs:List V),PV.aU xs=true->aq K ρ' H' xs vs->aq K ρ H' xs vs
 | [],vs,_,h=>by simpa only[aq] using h
 | x::r,vs,f,h=>by
  rw[aq] at h ⊢;rw[PV.aU,U3] at f;obtain⟨v,t,e,h1,h2⟩:=h;exact ⟨v,t,e,rel.flat x v f.1 h1,aq.flat r t f.2 h2⟩
end
mutual
theorem rel.i6(g: ∀ (n:Nat) (a:U0), ρ[n]?=fv a-> ρ'[n]?=fv a): ∀(x:PV)(v:V),x.i6 ρ.length=true->rel K ρ' H' x v->rel K ρ H' x v
 | .non,v,_,h=>by simpa only [rel] using h
 | .bl _,v,_,h=>by simpa only [rel] using h
 | .int _,v,_,h=>by simpa only [rel] using h
 | .str _,v,_,h=>by simpa only[rel] using h
 | .ty _,v,_,h=>by simpa only[rel] using h
 | .ref n,v,f,h=>by
  rw[rel] at h ⊢;rw[PV.i6,decide_eq_true_eq] at f;obtain⟨a,e,h⟩:=h;have:=g n _ (UQ f);rw[e] at this;exact⟨a,by rw[UQ f,<- Vx this],h⟩
 | .tup xs,v,f,h=>by
  rw[rel] at h ⊢;rw[PV.i6] at f;obtain⟨a,vs,e,s,r⟩:=h;exact⟨a,vs,e,s,aq.i6 g xs vs f r⟩
 | .ktup xs,v,f,h=>by
  rw[rel] at h ⊢;rw [PV.i6] at f;obtain ⟨a,vs,e,s,r⟩:=h;exact ⟨a,vs,e,s,aq.i6 g xs vs f r⟩
theorem aq.i6(g: ∀ (n:Nat) (a:U0), ρ[n]?=fv a-> ρ'[n]?=fv a): ∀(xs:List PV)(vs:List V),PV.jw ρ.length xs=true->aq K ρ' H' xs vs->aq K ρ H' xs vs
 | [],vs,_,h=>by simpa only [aq] using h
 | x::r,vs,f,h=>by
  rw [aq] at h ⊢;rw[PV.jw,U3] at f;obtain⟨v,t,e,h1,h2⟩:=h;exact⟨v,t,e,rel.i6 g x v f.1 h1,aq.i6 g r t f.2 h2⟩
end
mutual
theorem rel.low: ∀(x:PV)(v:V),rel K ρ H x v->x.i6 ρ.length=true
 | .non,v,_=>rfl
 | .bl _,v,_=>rfl
 | .int _,v,_=>rfl
 | .str _,v,_=>rfl
 | .ty _,v,_=>rfl
 | .ref n,v,h=>by
  rw[rel] at h;obtain⟨a,e,h⟩:=h;rw[PV.i6,decide_eq_true_eq];exact(UJ.mp e).1
 | .tup xs,v,h=>by
  rw[rel] at h;obtain⟨a,vs,e,s,r⟩:=h;rw[PV.i6];exact aq.low xs vs r
 | .ktup xs,v,h=>by
  rw[rel] at h;obtain⟨a,vs,e,s,r⟩:=h;rw[PV.i6];exact aq.low xs vs r
theorem aq.low: ∀(xs:List PV)(vs:List V),aq K ρ H xs vs->PV.jw ρ.length xs=true
 | [],vs,_=>rfl
 | x::r,vs,h=>by
  rw[aq] at h;obtain⟨v,t,e,h1,h2⟩:=h;rw[PV.jw,rel.low x v h1,aq.low r t h2];rfl
end
theorem Paired.low: ∀{kvs kws},VH (λ(p:Key × PV) (q:Key × V)=>p.1=q.1/\rel K ρ H p.2 q.2) kvs kws->PV.jw ρ.length (kvs.map (·.2))=true
 | _,_,.nil=>rfl
 | _,_,.cons r t=>by rw[UP,PV.jw,rel.low _ _ r.2,Paired.low t];rfl
theorem kX.low: ∀{o},kX K ρ H a o->o.i6 ρ.length=true
 | .lst xs,⟨vs,_,r⟩=>aq.low _ _ r
 | .jX xs,⟨vs,_,r⟩=>aq.low _ _ r
 | .dct kvs,⟨kws,_,r⟩=>Paired.low r
theorem Paired.i6(g: ∀ (n:Nat) (a), ρ[n]?=fv a-> ρ'[n]?=fv a): ∀{kvs kws},PV.jw ρ.length (kvs.map (·.2))=true ->
  VH (λ(p:Key × PV) (q)=>p.1=q.1∧rel K ρ' H' p.2 q.2) kvs kws->VH (λ(p) (q:Key × V)=>p.1=q.1∧rel K ρ H' p.2 q.2) kvs kws
 | _,_,_,.nil=> .nil
 | _,_,f,.cons r t=>by
  rw [UP,PV.jw,U3] at f;exact .cons ⟨r.1,rel.i6 g _ _ f.1 r.2⟩ (Paired.i6 g f.2 t)
theorem kX.i6(g: ∀ (n:Nat) (a), ρ[n]?=fv a-> ρ'[n]?=fv a): ∀{o},o.i6 ρ.length=true->kX K ρ' H' a o->kX K ρ H' a o
 | .lst xs,f,⟨vs,e,r⟩=>⟨vs,e,aq.i6 g _ _ f r⟩
 | .jX xs,f,⟨vs,e,r⟩=>⟨vs,e,aq.i6 g _ _ f r⟩
 | .dct kvs,f,⟨kws,e,r⟩=>⟨kws,e,Paired.i6 g f r⟩
theorem cG.drop(s:cG K ρ h H)(g:Gr ρ H ρ' H')(s':cG K ρ' h' H')(ok:bK h.length h h'=true):cG K ρ (h'.take h.length) H':=by
 have old: ∀{i:Nat}{o:PO},(h'.take h.length)[i]?=fv o->i < h.length/\h'[i]?=fv o:=λ{i o} e=>by
  have hi:i < h.length:=by
   have:=(UJ.mp e).1;rw[VT] at this;omega
  rw[aa1,if_pos hi] at e;exact⟨hi,e⟩
 refine⟨by rw[VT,s.len,XU (nZ ok)],λi j a oi oj ei ej mi mj ri rj=>?_,λi o a e ea=>?_⟩
 . exact s'.nd i j a oi oj (old ei).2 (old ej).2 mi mj (g.pre _ _ ri) (g.pre _ _ rj)
 . have r:=s'.ob i o a (old e).2 (g.pre _ _ ea);obtain⟨o0,e0,_,z⟩:=pT ok e;refine kX.i6 g.pre ?_ r;rcases z with z | z
   . subst z;exact(s.ob i o0 a e0 ea).low
   . rw[s.len];exact z
theorem fK(s:cG K ρ h H)(e:settle h v h'= .ok w h2)(P:dN K ρ H w h2 Q):dN K ρ H v h' Q:=by
 unfold settle at e;split at e
 . rename_i ok;rw[U3] at ok;cases e;exact λv' ρ' H' g s' r=>P v' ρ H' ⟨λ_ _ z=>z,g.tup,g.jx⟩ (s.drop g s' ok.2) (rel.flat _ _ ok.1 r)
 . simp_all
end
theorem gP{K}: ∀{args vs},aq K ρ H args vs-> ∀ n,dM K ρ H (args.map fv++UN n UB) (vs.map fv++UN n UB)
 | args,vs,r,n=>by
  have:dM K ρ H (args.map fv) (vs.map fv):=⟨by simp[r.len],λi v e=>by
   rw[U1] at e;cases q:args[i]? with
   | none=>simp_all
   | some w =>
    rw[q] at e
    cases e
    obtain⟨v',e1,e2⟩:=r.get q
    exact⟨v',by simp_all,e2⟩⟩
  exact this.more n
structure mH(P:Vl)(w:VE)(K:UC)(mg:Str->Option UH)(base:VO)(pg:Tb)(f:String)(d:Df):Prop where
 ex: ∃(st:Z8)(N:List Str),At K mg (UI f) st/\dZ N d.ps (az st)/\N.length=d.ps.length+d.nl /\
  (∀(kV doc pm:UH)(an:Option U0)(cdv ct:UH)(us:List UH),us.length=d.ps.length->XF (V2 (UI f) (UI f) (cA st) (bo st) (az st) .none kV doc pm an cdv ct) ⟨us,[]⟩=pure (d.ps.zip us)) /\
  ∀(fa:U0)(cdv:UH)(A:Wf)(outer:List Env)(s:UM)(H:Hp)(E:XK)(k:Nat),zY (jZ uQ P w K mg base N (UI f) (az st) fa cdv A outer s H E).sC pg k (bo st) d.body
structure Top(P:Vl)(w:VE)(K:UC)(mg:Str->Option UH)(pg:Tb):Prop where
 blt: ∀ x∈gh,mg x=UB
 con: ∀ x v,pg.con x=fv v-> ∃ u v',mg x=fv u/\RelV v' u/\yS K v'/\ ∀ ρ H,rel K ρ H v v'
 xa: ∀ x kvs,pg.xa x=fv kvs-> ∃ a kws,mg x=fv (.ref a)∧KD P w K a kws∧ ∀ ρ H,VH (λ(p:Key × PV) (q:Key × V)=>p.1=q.1∧rel K ρ H p.2 q.2) kvs kws
section
variable {P:Vl} {w:VE} {K:UC} {mg:Str->Option UH} {base:VO} {pg:Tb}
theorem Cg(T : Top P w K mg pg)(G : ∀ f d, pg.fns f = fv d -> mH P w K mg base pg f d) : ∀ k f d, pg.fns f = fv d -> lC P w K mg base (UI f) k d.ps (vE K pg k f) := by
  intro k
  induction k with
  | zero =>
    intro f d hf
    obtain ⟨st, N, a, S, hl, hb, body⟩ := (G f d hf).ex
    exact At.zJ a hb λvs H Q E => by rintro ⟨ρ, h, args, v, h', _, _, q, _⟩ ; exact by cases q
  | succ k ih =>
    intro f d hf
    obtain ⟨st, N, a, S, hl, hb, body⟩ := (G f d hf).ex
    have run_eq : ∀{args : List PV}{h h' : PH}{v : PV}, run pg (k + 1) f args h = .ok v h' -> args.length = d.ps.length ∧
        ((∃ w h2, d.body (run pg k) (args.map fv ++ UN d.nl UB) h = .ok (.rt w) h2 /\ settle h w h2 = .ok v h') ∨
         (∃ e h2, d.body (run pg k) (args.map fv ++ UN d.nl UB) h = .ok (.nx e) h2 /\ settle h .non h2 = .ok v h')) := λ{args h h' v} q => by
      rw [run, hf] at q;simp only at q;split at q
      . rename_i hn;refine ⟨hn, ?_⟩;split at q
        . rename_i w h2 e; exact .inl ⟨w, h2, e, q⟩
        . rename_i e' h2 e; exact .inr ⟨e', h2, e, q⟩
        . nomatch q
        . cases q
        . nomatch q
      . simp_all
    refine At.Ss a S hb (λvs H Q E => by rintro ⟨ρ, h, args, v, h', _, r, q, _⟩ ; exact by rw [<- r.len]; exact (run_eq q).1) ?_
    rintro fa cdv A outer s H vs Q E hr ⟨ρ, h, args, v, h', sm, r, q, post⟩
    have amb : b6 (jZ uQ P w K mg base N (UI f) (az st) fa cdv A outer s H E).sC pg k := ⟨hr, rfl, λ_ _ z => z, ih, T.blt, T.con, T.xa⟩
    obtain ⟨t, qt, st'⟩ := (body fa cdv A outer s H E k).h amb
    refine ⟨t, qt, ?_⟩
    obtain ⟨hn, q⟩ := run_eq q
    have he : L2.start N vs = vs.map fv ++ UN d.nl UB := by
      unfold L2.start;rw [hl, <- r.len, hn, ZH]
    rw [he]
    rcases q with ⟨w, h2, e, q⟩ | ⟨e', h2, e, q⟩
    . exact st' ρ h H _ _ _ _ h2 sm (gP r _) e (fK sm q post)
    . exact st' ρ h H _ _ _ _ h2 sm (gP r _) e fun σ' ρ' H' g s' _ => fK sm q post .non ρ' H' g s' (by rw [rel])
end
def p2(f:Int->Int->RV PV):PV->PV->PH->RV PV:=λx y h=>match x,y with
 | .int i,.int j=>(f i j).bind λv _=> .ok v h
 | _,_=> .no
noncomputable def FP(v:PV):RV PV:= .ok v []
section
variable{K:UC}{X:Cx}{pg:Tb}{k:Nat}
theorem JB(hf: ∀ i j v h,f i j= .ok v h->C i j/\ ∀ ρ H,rel K ρ H v (g i j)):lW K (rI C g) (p2 f):=fun ρ h H x y x' y' Q v h' s rx ry q P=>by
 unfold p2 at q;split at q
 . rename_i i j;obtain⟨w,h0,e,q⟩:=bind_eq.mp q;cases q;obtain⟨hc,hr⟩:=hf i j v h0 e;exact⟨i,j,rx,ry,hc,P _ ρ H (.refl _ _) s (hr ρ H)⟩
 . cases q
theorem xx(hf: ∀ i j v h,f i j= .ok v h-> ∀ ρ H,rel K ρ H v (g i j)):lW K (Fq g) (p2 f):=fun ρ h H x y x' y' Q v h' s rx ry q P=>by
 unfold p2 at q;split at q
 . rename_i i j;obtain⟨w,h0,e,q⟩:=bind_eq.mp q;cases q;exact⟨i,j,rx,ry,P _ ρ H (.refl _ _) s (hf i j v h0 e ρ H)⟩
 . cases q
def w6:=p2 λi j=>FP (.int (i - j))
def gz:=p2 λi j=>if 0 < j then FP (.int (i % j)) else .no
def Dc:=p2 λi j=>if 0<=j/\j<=1000000/\i.natAbs < 2 ^ 64 then FP (.int (i ^ j.toNat)) else .no
def vc:=p2 λi j=>FP (.bl (decide (i < j)))
def QY:=p2 λi j=>FP (.bl (decide (i<=j)))
def L8:=p2 λi j=>FP (.bl (decide (j < i)))
theorem Oo:b6 X pg k-> ∃ r,cC X (VX .Sub) r/\lW X.K r w6:=λ_=>⟨_,L4,xx λi j v h e ρ H=>by cases e;rw[rel]⟩
theorem Nb:b6 X pg k-> ∃ r,cC X (VX .Mod) r/\lW X.K r gz:=λ_=>⟨_,Iw,JB λi j v h e=>by
 split at e
 . cases e;exact⟨by assumption,fun ρ H=>by rw[rel]⟩
 . cases e⟩
theorem Ov:b6 X pg k-> ∃ r,cC X (VX .Pow) r/\lW X.K r Dc:=λ_=>⟨_,Me,JB λi j v h e=>by
 split at e
 . cases e;exact⟨by assumption,fun ρ H=>by rw[rel]⟩
 . cases e⟩
theorem RF:b6 X pg k-> ∃ r,cC X (Vf .Lt) r/\lW X.K r vc:=λ_=>⟨_,Qb,xx λi j v h e ρ H=>by cases e;rw[rel]⟩
theorem Q9:b6 X pg k-> ∃ r,cC X (Vf .LtE) r/\lW X.K r QY:=λ_=>⟨_,OL,xx λi j v h e ρ H=>by cases e;rw[rel]⟩
theorem Sb:b6 X pg k-> ∃ r,cC X (Vf .Gt) r/\lW X.K r L8:=λ_=>⟨_,M5,xx λi j v h e ρ H=>by cases e;rw[rel]⟩
def Pq(xs:List PV)(h:PH):RV PV:=kC xs.length (.ok (.ref h.length) (h++[.lst xs]))
def aL:PV->PV->PH->RV PV:=λx y h=>match x,y with
 | .int i,.int j=> .ok (.int (i+j)) h
 | .str a,.str b=>kC (a.length+b.length) (.ok (.str (a++b)) h)
 | .tup xs,.tup ys=>kC (xs.length+ys.length) (.ok (.tup (xs++ys)) h)
 | .ref n,.ref m=>(match h[n]?,h[m]? with
  | some (.lst xs),fv (.lst ys)=>Pq (xs++ys) h
  | _,_=> .no)
 | _,_=> .no
theorem cG.lst{ρ h H}(s:cG K ρ h H){n xs}(e:h[n]?=fv (.lst xs)){v}(r:rel K ρ H (.ref n) v): ∃ a vs,v= .ref a/\ ρ[n]?=fv a/\H a=fv (.lst vs)/\aq K ρ H xs vs:=by
 obtain⟨a,ea,rfl⟩:=r;obtain⟨vs,e1,e2⟩:=s.ob n _ a e ea;exact⟨a,vs,rfl,ea,e1,e2⟩
theorem cG.jX(s:cG K ρ h H)(e:h[n]?=fv (.jX xs))(r:rel K ρ H (.ref n) v): ∃ a vs,v= .ref a/\ ρ[n]?=fv a/\gB K H a vs/\aq K ρ H xs vs:=by
 obtain⟨a,ea,rfl⟩:=r;obtain⟨vs,e1,e2⟩:=s.ob n _ a e ea;exact⟨a,vs,rfl,ea,e1.sq,e2⟩
noncomputable def cj(h:PH)(n:Nat):Option (List PV):=match h[n]? with
 | some (.lst xs)=>fv xs
 | some (.jX xs)=>fv xs
 | _=>UB
theorem cG.sq(s:cG K ρ h H)(e:cj h n=fv xs)(r:rel K ρ H (.ref n) v): ∃ a vs,v= .ref a/\ ρ[n]?=fv a/\gB K H a vs/\aq K ρ H xs vs:=by
 unfold cj at e;split at e
 . cases e;obtain⟨a,vs,e1,e2,e3,e4⟩:=s.lst (by assumption) r;exact⟨a,vs,e1,e2,.of e3,e4⟩
 . cases e;exact s.jX (by assumption) r
 . cases e
theorem mh(s:cG K ρ h H)(r:aq K ρ H xs us)(P:dN K ρ H (.tup xs) h Q) p (hp:H p=UB):Q (.ref p) (upd H p (.tup us)):=by
 refine P _ ρ _ (Gr.wI hp) (s.tup hp) ?_;exact⟨p,us,rfl,a9,aq.gr (Gr.wI hp) _ _ r⟩
theorem Px:b6 X pg k-> ∃ r,cC X (VX .Add) r/\lW X.K r aL:=λ_=>⟨_,Lp,fun ρ h H x y x' y' Q v h' s rx ry q P=>by
 unfold aL at q;split at q
 . cases q;exact .inl ⟨_,_,rx,ry,P _ ρ H (.refl _ _) s (by rw[rel])⟩
 . obtain⟨hl,q⟩:=jr.mp q;cases q;exact .inr (.inr (.inr (.inr ⟨_,_,rx,ry,hl,P _ ρ H (.refl _ _) s (by rw[rel])⟩)))
 . rename_i xs ys;obtain⟨hl,q⟩:=jr.mp q;cases q;have ry':=ry;obtain⟨a,us,e1,e2,e3⟩:=rx;obtain⟨b,ws,d1,d2,d3⟩:=ry;cases xs with
   | nil =>
    subst e3
    exact .inr (.inr (.inr (.inl ⟨a,b,ws,e1,d1,.of e2,.of d2,d1 ▸ P y' ρ H (.refl _ _) s ry'⟩)))
   | cons x r =>
    refine .inr (.inr (.inl ⟨a,b,us,ws,e1,d1,.of e2,.of d2,?_,by rw[<- e3.len,<- d3.len];exact hl,?_⟩))
    . rintro rfl;have:=e3.len;simp at this
    . refine⟨λz=>?_,λ_ p hp=>mh s (e3.app d3) P p hp⟩;subst z;have:=Yr d3.len;subst this;rw[Vp] at P;exact P _ ρ H (.refl _ _) s (by exact⟨a,us,rfl,e2,e3⟩)
 . split at q
   . rename_i h1 h2;obtain⟨hl,q⟩:=jr.mp q;cases q;obtain⟨a,us,rfl,_,e1,e2⟩:=s.lst h1 rx;obtain⟨b,ws,rfl,_,d1,d2⟩:=s.lst h2 ry;refine .inr (.inl ⟨a,b,us,ws,rfl,rfl,e1,d1,?_,λp hp=>cX s (e2.app d2) P p hp⟩);rw[<- e2.len,<- d2.len];simpa using hl
   . nomatch q
 . nomatch q⟩
noncomputable def cv(kvs:List (Key × PV)) k:=(kvs.find? λkv=>decide (kv.1=k)).map (·.2)
noncomputable def mT kvs (k:Key) (v:PV) :=
 if (kvs.any λkv=>decide (kv.1=k))=true then kvs.map (λkv=>if kv.1=k then(kv.1,v) else kv) else kvs++[(k,v)]
noncomputable def gY:PV->Option Key
 | .int i=>fv (.inl i)
 | .str x=>fv (.inr x)
 | _=>UB
theorem eP{k}(e:gY x=fv k)(r:rel K ρ H x v):v=kV k:=by
 cases x<;>simp only[gY,reduceCtorEq,X8] at e<;>(subst e;exact r)
abbrev RK(K:UC)(ρ :List U0)(H:Hp)(kvs:List (Key × PV))(kws:List (Key × V)):Prop:=VH (λ(p:Key × PV) (q:Key × V)=>p.1=q.1/\rel K ρ H p.2 q.2) kvs kws
theorem RK.val: ∀{kvs kws} k,RK K ρ H kvs kws->match cv kvs k,gj kws k with
  | some x,fv v=>rel K ρ H x v
  | none,UB=>True
  | _,_=>False
 | _,_,k,.nil=>trivial
 | _,_,k,.cons (a:=p) (b:=q) r t=>by
  have ih:=RK.val k t;unfold cv gj at ih ⊢;rw[abM,abM,<- r.1];by_cases e:p.1=k
  . simp only[e,decide_true];exact r.2
  . simp only[e,decide_false];exact ih
theorem RK.some{k}(r:RK K ρ H kvs kws)(e:cv kvs k=fv x): ∃ v,gj kws k=fv v/\rel K ρ H x v:=by
 have:=RK.val k r;rw[e] at this;cases q:gj kws k with
 | none=>rw[q] at this;exact Wz this
 | some v=>rw[q] at this;exact⟨v,rfl,this⟩
theorem RK.is k (r:RK K ρ H kvs kws):(gj kws k).isSome=(cv kvs k).isSome:=by
 have:=RK.val k r;cases p:cv kvs k<;>cases q:gj kws k<;>rw[p,q] at this<;>first | rfl | exact Wz this
theorem RK.len(r:RK K ρ H kvs kws):kvs.length=kws.length:=XC r
theorem RK.any: ∀{kvs kws} k,RK K ρ H kvs kws->(kws.any λkv=>decide (kv.1=k))=kvs.any λkv=>decide (kv.1=k)
 | _,_,k,.nil=>rfl
 | _,_,k,.cons (a:=p) (b:=q) r t=>by rw[WG,WG,RK.any k t,r.1]
theorem RK.AW{k}(h:rel K ρ H x v): ∀{kvs kws},RK K ρ H kvs kws->RK K ρ H (kvs.map λkv=>if kv.1=k then(kv.1,x) else kv) (kws.map λkv=>if kv.1=k then(kv.1,v) else kv)
 | _,_,.nil=> .nil
 | _,_,.cons (a:=p) (b:=q) a t=> .cons (by
   show(if p.1=k then(p.1,x) else p).1=(if q.1=k then(q.1,v) else q).1/\rel K ρ H (if p.1=k then(p.1,x) else p).2 (if q.1=k then(q.1,v) else q).2;rw[<- a.1];split
   . exact⟨rfl,h⟩
   . exact a) (RK.AW h t)
theorem RK.snoc{k}(h:rel K ρ H x v): ∀{kvs kws},RK K ρ H kvs kws->RK K ρ H (kvs++[(k,x)]) (kws++[(k,v)])
 | _,_,.nil=> .cons ⟨rfl,h⟩ .nil
 | _,_,.cons a t=> .cons a (RK.snoc h t)
theorem RK.put{k}(r:RK K ρ H kvs kws)(h:rel K ρ H x v):RK K ρ H (mT kvs k x) (putK kws k v):=by
 unfold mT putK;rw[RK.any k r];split
 . exact RK.AW h r
 . exact RK.snoc h r
def aG:PV->PV->PH->RV PV:=λx y h=>match x with
 | .tup xs=>(match y with
  | .int i=>(match cR xs i with | some v=> .ok v h | none=> .no)
  | _=> .no)
 | .ktup xs=>(match y with
  | .int i=>(match cR xs i with | some v=> .ok v h | none=> .no)
  | _=> .no)
 | .str z=>(match y with
  | .int i=>kC z.length (match cR z.cps.toList i with | some c=> .ok (.str ⟨#[c]⟩) h | none=> .no)
  | _=> .no)
 | .ref n=>(match h[n]? with
  | some (.dct kvs)=>(match gY y with
   | some k=>(match cv kvs k with | some v=> .ok v h | none=> .no)
   | none=> .no)
  | some (.lst xs)=>(match y with
   | .int i=>(match cR xs i with | some v=> .ok v h | none=> .no)
   | _=> .no)
  | some (.jX xs)=>(match y with
   | .int i=>(match cR xs i with | some v=> .ok v h | none=> .no)
   | _=> .no)
  | none=> .no)
 | _=> .no
theorem aq.at(r:aq K ρ H xs vs)(e:cR xs i=fv x): ∃ v,cR vs i=fv v/\rel K ρ H x v:=by
 unfold cR at e ⊢;rw[<- r.len];cases q:o7 xs.length i with
 | none=>simp_all
 | some j =>
  rw [q] at e
  exact r.get e
noncomputable def Ur:R2:=λx y H Q=> ∃ a v,x= .ref a∧i8 H a y (fv v)∧Q v H
theorem zR(hu : X.A.units + 1 < XD) : yq X Ur := by
  intro value slice pins s σ H x y v u Q I rx ry h hs;obtain ⟨a, w, rfl, g, q⟩ := h;obtain rfl : v = U6 a := rx;have hT := uo I g;refine UA ?_;refine UA (Z3 hT Y5.lookup ?_);have fin : U2 (U8 X.prog X.w) X.A (Zb slice false (.ref a) u) (λr s₃ => U2 (U8 X.prog X.w) X.A (letTemporaryGo value (.ref a) r >>= λ_ => pure r) (EP X pins σ Q) X.xe s₃) X.xe s := by
    rw [hs];exact wpAny_operating (yU hu I g ry λw' s' I' r' => UA (aal (UO ⟨w, H, I', r', q⟩)))
  first
    | exact UO (UA fin)
    | exact UA (UO (UA fin))
    | exact UA fin
theorem b6.hu(A:b6 X pg k):X.A.units+1 < XD:=Pl A.room
theorem Sx:b6 X pg k-> ∃ r,yq X r/\lW X.K r aG:=λA=>⟨_,LK.or (zR A.hu),fun ρ h H x y x' y' Q v h' s rx ry q P=>by
 cases x with
 | tup xs =>
  cases y with
  | int i =>
   simp only[aG] at q
   split at q
   . rename_i w e;cases q;obtain⟨a,vs,rfl,z,r⟩:=rel.seq (x:= .tup xs) rfl rx;obtain⟨u,e1,e2⟩:=r.at e;exact .inl (.inr (.inl ⟨a,vs,i,u,rfl,ry,z,e1,P _ ρ H (.refl _ _) s e2⟩))
   . nomatch q
  | _=>cases q
 | ktup xs =>
  cases y with
  | int i =>
   simp only[aG] at q
   split at q
   . rename_i w e;cases q;obtain⟨a,vs,rfl,z,r⟩:=rel.seq (x:= .ktup xs) rfl rx;obtain⟨u,e1,e2⟩:=r.at e;exact .inl (.inr (.inl ⟨a,vs,i,u,rfl,ry,z,e1,P _ ρ H (.refl _ _) s e2⟩))
   . nomatch q
  | _=>cases q
 | str z =>
  cases y with
  | int i =>
   obtain⟨hl,q⟩:=jr.mp q
   split at q
   . rename_i c e;cases q;exact .inl (.inr (.inr ⟨z,i,c,rx,ry,hl,e,P _ ρ H (.refl _ _) s (by rw[rel])⟩))
   . nomatch q
  | _=>cases q
 | ref n =>
  simp only[aG] at q
  split at q
  . rename_i kvs e;split at q
    . rename_i key ek;split at q
      . rename_i w ew;cases q;obtain⟨a,ea,rfl⟩:=rx;obtain⟨kws,e1,e2⟩:=s.ob n _ a e ea;obtain⟨u,e3,e4⟩:=RK.some e2 ew;have:=eP ek ry;subst this;exact .inr ⟨a,u,rfl,e3 ▸ i8.k (k:=key) e1,P _ ρ H (.refl _ _) s e4⟩
      . nomatch q
    . nomatch q
  . rename_i xs e;cases y with
    | int i =>
     simp only at q
     split at q
     . rename_i w ew;cases q;obtain⟨a,vs,rfl,_,z,r⟩:=s.lst e rx;obtain⟨u,e1,e2⟩:=r.at ew;exact .inl (.inl ⟨a,vs,i,u,rfl,ry,.of z,e1,P _ ρ H (.refl _ _) s e2⟩)
     . nomatch q
    | _=>nomatch q
  . rename_i xs e;cases y with
    | int i =>
     simp only at q
     split at q
     . rename_i w ew;cases q;obtain⟨a,vs,rfl,_,z,r⟩:=s.jX e rx;obtain⟨u,e1,e2⟩:=r.at ew;exact .inl (.inl ⟨a,vs,i,u,rfl,ry,z,e1,P _ ρ H (.refl _ _) s e2⟩)
     . nomatch q
    | _=>nomatch q
  . nomatch q
 | _=>cases q⟩
theorem Pa(hr:b6 X pg k-> ∃ r,yq X r/\lW X.K r f)(ha:JE X pg k a ma)(hb:JE X pg k b mb)(hs:q9 b):JE X pg k (.Subscript a b pos) (ao f ma mb):=⟨λA =>
 let ⟨_,q1,s1⟩:=ha.h A;let ⟨_,q2,s2⟩:=hb.h A;by obtain⟨_,q,s⟩:=hr A;exact⟨_,Pe q q1 q2 hs,xy s s1 s2⟩⟩
def mS:PV->PV->PV->PH->RV Unit:=λx y v h=>match x with
 | .ref n=>(match h[n]? with
  | some (.dct kvs)=>(match gY y with
   | some k=>if kvs.length < UK then .ok () (h.set n (.dct (mT kvs k v))) else .no
   | none=> .no)
  | some (.lst xs)=>(match y with
   | .int i=>(match o7 xs.length i with | some j=> .ok () (h.set n (.lst (xs.set j v))) | none=> .no)
   | _=> .no)
  | _=> .no)
 | _=> .no
noncomputable def Nj:KJ:=λo i v H Q=> ∃ a H',o= .ref a/\wu H a i v H'/\Q H'
theorem set_dict(hu:X.A.units+1 < XD):pB X Nj:=by
 intro pins s σ H o i v ov iv u Q I ro ri rv h;obtain⟨a,H',rfl,g,q⟩:=h;obtain rfl:ov=U6 a:=ro;exact zg hu I g ri rv λs' I'=>⟨H',I',q⟩
theorem pB.or(h:pB X t)(h':pB X t'):pB X (λo i v H Q=>t o i v H Q\/t' o i v H Q):=by
 intro pins s σ H o i v ov iv u Q I ro ri rv q;rcases q with q | q
 . exact h pins s σ H o i v ov iv u Q I ro ri rv q
 . exact h' pins s σ H o i v ov iv u Q I ro ri rv q
theorem OG:b6 X pg k-> ∃ t,pB X t/\ ∀ ρ h H x y v x' y' v' u h' Q,cG X.K ρ h H->rel X.K ρ H x x'->rel X.K ρ H y y'->rel X.K ρ H v v'->mS x y v h= .ok u h'->lA X.K ρ H h' Q->t x' y' v' H Q:=λA =>
 ⟨_,pB.or set_list (set_dict A.hu),fun ρ h H x y v x' y' v' u h' Q s rx ry rv q P=>by
 cases x with
 | ref n =>
  simp only[mS] at q
  obtain⟨a,ea,rfl⟩:=rx
  split at q
  . rename_i kvs e;split at q
    . rename_i key ek;split at q
      . rename_i hl;cases q;obtain⟨kws,e1,e2⟩:=s.ob n _ a e ea;have:=eP ek ry;subst this;refine .inr ⟨a,_,rfl,wu.k e1 (by rw[<- RK.len e2];exact hl),?_⟩;have g:Gr ρ H ρ (upd H a (.dK (putK kws key v'))):=Gr.write (.inr ⟨_,e1⟩);exact P ρ _ g (s.write e ea rfl rfl ⟨_,a9,Paired.iT g (RK.put e2 rv)⟩)
      . nomatch q
    . nomatch q
  . rename_i xs e;cases y with
    | int i =>
     simp only at q
     split at q
     . rename_i j ej;cases q;obtain⟨vs,e1,e2⟩:=s.ob n _ a e ea;have g:Gr ρ H ρ (upd H a (.lst (vs.set j v'))):=Gr.write (.inl ⟨_,e1⟩);exact .inl ⟨a,vs,i,j,rfl,ry,e1,by rw[<- e2.len];exact ej,P ρ _ g (s.write e ea rfl rfl ⟨_,a9,aq.gr g _ _ (e2.set j rv)⟩)⟩
     . nomatch q
    | _=>cases q
  . nomatch q
 | _=>cases q⟩
end
mutual
def bR(K:UC)(H:Hp):Xo->V->Prop
 | .none,v=>v= .non
 | .bool b,v=>v= .bl b
 | .int i,v=>v= .int i
 | .str x,v=>v= .str x
 | .list xs,v=> ∃ a vs,v= .ref a/\gB K H a vs/\eL K H xs vs
 | .tuple xs,v=> ∃ a vs,v= .ref a/\dQ K H a vs/\eL K H xs vs
 | .dict _,_=>False
def eL(K:UC)(H:Hp):List Xo->List V->Prop
 | [],vs=>vs=[]
 | x::r,vs=> ∃ v t,vs=v::t/\bR K H x v/\eL K H r t
end
mutual
theorem bR.reads{X:Cx}{pins:List (U0 × Obj)}{σ :L2.St}{H:Hp}{s:UM}(I:Inv X pins σ H s): ∀(d:Xo)(v:V)(u:UH),bR X.K H d v->RelV v u-> ∃ as,Reads s.heap u d as
 | .none,v,u,h,r=>by rw[bR] at h;subst h;cases(show u=WU from r);exact⟨_,.none⟩
 | .bool b,v,u,h,r=>by rw[bR] at h;subst h;cases(show u=ZJ b from r);exact⟨_,.bool b⟩
 | .int i,v,u,h,r=>by rw[bR] at h;subst h;obtain⟨t,rfl⟩:=(show ∃ t,u=Xq i t from r);exact⟨_,.int i t⟩
 | .str x,v,u,h,r=>by rw[bR] at h;subst h;obtain⟨t,rfl⟩:=(show ∃ t,u=Yg x t from r);exact⟨_,.str x t⟩
 | .list xs,v,u,h,r=>by
  rw[bR] at h;obtain⟨a,vs,rfl,z,q⟩:=h;cases(show u=U6 a from r);obtain⟨aj,rv,⟨o,n,e,c,_,dd⟩,_⟩:=I.list z;obtain⟨as,ra⟩:=eL.reads I xs vs aj q rv;exact⟨_,.list e c dd (by simpa using ra)⟩
 | .tuple xs,v,u,h,r=>by
  rw[bR] at h;obtain⟨a,vs,rfl,z,q⟩:=h;cases(show u=U6 a from r);obtain⟨aj,rv,⟨o,e,c,n,dd⟩,_⟩:=I.tuple z;obtain⟨as,ra⟩:=eL.reads I xs vs aj q rv;exact⟨_,.tuple e c dd (by simpa using ra)⟩
 | .dict _,v,u,h,r=>by rw[bR] at h;exact h.elim
theorem eL.reads{X:Cx}{pins:List (U0 × Obj)}{σ :L2.St}{H:Hp}{s:UM}(I:Inv X pins σ H s): ∀(xs:List Xo)(vs:List V)(us:List UH),eL X.K H xs vs->Vals vs us-> ∃ as,ReadsAll s.heap us xs as
 | [],vs,us,h,r=>by rw[eL] at h;subst h;cases r;exact⟨_,.nil⟩
 | x::t,vs,us,h,r=>by
  rw[eL] at h;obtain⟨v,w,rfl,h1,h2⟩:=h;cases r with
  | cons r1 r2 =>
   obtain⟨as,a⟩:=bR.reads I x v _ h1 r1
   obtain⟨bs,b⟩:=eL.reads I t w _ h2 r2
   exact⟨_,.cons a b⟩
end
mutual
def iL(sub:Nat->Option Xo):PV->Option Xo
 | .non=>fv .none
 | .bl b=>fv (.bool b)
 | .int i=>fv (.int i)
 | .str x=>fv (.str x)
 | .tup xs=>(bA sub xs).map .tuple
 | .ktup xs=>(bA sub xs).map .tuple
 | .ref n=>sub n
 | .ty _=>UB
def bA(sub:Nat->Option Xo):List PV->Option (List Xo)
 | []=>fv []
 | x::r=>match iL sub x,bA sub r with
  | some d1,fv ds1=>fv (d1::ds1)
  | _,_=>UB
end
noncomputable def dat:Nat->PH->PV->Option Xo
 | 0,_=>iL λ_=>UB
 | n+1,h=>iL λm=>match h[m]? with
  | some (.lst xs)=>(bA (λj=>dat n h (.ref j)) xs).map .list
  | some (.jX xs)=>(bA (λj=>dat n h (.ref j)) xs).map .list
  | _=>UB
mutual
theorem iL.v{K:UC}{ρ :List U0}{H:Hp}{sub:Nat->Option Xo}(hs: ∀ n d v,sub n=fv d->rel K ρ H (.ref n) v->bR K H d v): ∀(x:PV)(d:Xo)(v:V),iL sub x=fv d->rel K ρ H x v->bR K H d v
 | .non,d,v,e,r=>by cases e;rw[rel] at r;rw[bR];exact r
 | .bl b,d,v,e,r=>by cases e;rw[rel] at r;rw[bR];exact r
 | .int b,d,v,e,r=>by cases e;rw[rel] at r;rw[bR];exact r
 | .str b,d,v,e,r=>by cases e;rw[rel] at r;rw[bR];exact r
 | .ty b,d,v,e,r=>by nomatch e
 | .ref n,d,v,e,r=>hs n d v e r
 | .tup xs,d,v,e,r=>by
  rw[iL] at e;cases q:bA sub xs with
  | none=>rw[q] at e;nomatch e
  | some ds =>
   rw[q] at e;cases e
   obtain⟨a,vs,e1,e2,e3⟩:=rel.seq (x:= .tup xs) rfl r
   rw[bR];exact⟨a,vs,e1,e2,bA.v hs xs ds vs q e3⟩
 | .ktup xs,d,v,e,r=>by
  rw[iL] at e;cases q:bA sub xs with
  | none=>rw[q] at e;nomatch e
  | some ds =>
   rw[q] at e;cases e
   obtain⟨a,vs,e1,e2,e3⟩:=rel.seq (x:= .ktup xs) rfl r
   rw[bR];exact⟨a,vs,e1,e2,bA.v hs xs ds vs q e3⟩
theorem bA.v{K:UC}{ρ :List U0}{H:Hp}{sub:Nat->Option Xo}(hs: ∀ n d v,sub n=fv d->rel K ρ H (.ref n) v->bR K H d v): ∀(xs:List PV)(ds:List Xo)(vs:List V),bA sub xs=fv ds->aq K ρ H xs vs->eL K H ds vs
 | [],ds,vs,e,r=>by cases e;rw[aq] at r;rw[eL];exact r
 | x::t,ds,vs,e,r=>by
  rw[bA] at e;split at e
  . rename_i d ds' e1 e2;cases e;obtain⟨v,w,rfl,r1,r2⟩:=au.mp r;rw[eL];exact⟨v,w,rfl,iL.v hs x d v e1 r1,bA.v hs t ds' w e2 r2⟩
  . nomatch e
end
theorem dat.v{K}(s:cG K ρ h H): ∀ n x d v,dat n h x=fv d->rel K ρ H x v->bR K H d v
 | 0,x,d,v,e,r=>iL.v (λ_ _ _ z _=>by cases z) x d v e r
 | n+1,x,d,v,e,r=>by
  refine iL.v (λm d' v' z rv=>?_) x d v e r;split at z
  . rename_i xs em;cases q:bA (λj=>dat n h (.ref j)) xs with
    | none=>rw[q] at z;nomatch z
    | some ds =>
     rw[q] at z;cases z
     obtain⟨a,vs,e1,_,e2,e3⟩:=s.lst em rv
     exact⟨a,vs,e1,.of e2,bA.v (λj d v z rv=>dat.v s n (.ref j) d v z rv) xs ds vs q e3⟩
  . rename_i xs em;cases q:bA (λj=>dat n h (.ref j)) xs with
    | none=>rw[q] at z;nomatch z
    | some ds =>
     rw[q] at z;cases z
     obtain⟨a,vs,e1,_,e2,e3⟩:=s.jX em rv
     exact⟨a,vs,e1,e2,bA.v (λj d v z rv=>dat.v s n (.ref j) d v z rv) xs ds vs q e3⟩
  . cases z
section
variable{K:UC}{X:Cx}{pg:Tb}{k:Nat}
noncomputable def M8(K:UC)(f:Bool->Bool):R2:=λx y H Q=> ∃ d d',bR K H d x/\bR K H d' y/\d.canLay0=true/\d'.canLay0=true/\min d.depth d'.depth<=64/\Q (.bl (f (YY d d'))) H
theorem Ln(hr:X.A.units+64 < XD):cC X (Vf .Eq) (M8 X.K id):=by
 rintro pins s σ H x y v u Q I rx ry ⟨d,d',h1,h2,c1,c2,hd,q⟩;obtain⟨as,ra⟩:=bR.reads I d x v h1 rx;obtain⟨bs,rb⟩:=bR.reads I d' y u h2 ry;exact SeqAt.compareEq_reads ra rb c1 c2 (by omega) ⟨.bl _,H,I,rfl,q⟩
theorem JK(hr:X.A.units+64 < XD):cC X (Vf .NotEq) (M8 X.K not):=by
 rintro pins s σ H x y v u Q I rx ry ⟨d,d',h1,h2,c1,c2,hd,q⟩;obtain⟨as,ra⟩:=bR.reads I d x v h1 rx;obtain⟨bs,rb⟩:=bR.reads I d' y u h2 ry;exact SeqAt.compareNe_reads ra rb c1 c2 (by omega) ⟨.bl _,H,I,rfl,q⟩
noncomputable def jV:PV->PV->Bool
 | .non,.non=>true | .non,.int _=>true | .int _,.non=>true | .non,.bl _=>true | .bl _,.non=>true | .non,.str _=>true | .str _,.non=>true
 | .int _,.int _=>true | .bl _,.bl _=>true | .str _,.str _=>true
 | .int _,.str _=>true | .str _,.int _=>true | .bl _,.str _=>true | .str _,.bl _=>true
 | _,_=>false
noncomputable def fC(h:PH):PV->Bool
 | .ref n=>(match h[n]? with
  | some (.dct _)=>true
  | _=>false)
 | _=>false
noncomputable def isStr:PV->Bool
 | .str _=>true
 | _=>false
def alike x y h :=
 if jV x y=true then fv (decide (x=y)) else match dat 6 h x,dat 6 h y with
  | some a,fv b=>if a.canLay0=true/\b.canLay0=true/\min a.depth b.depth<=64 then fv (YY a b) else UB
  | _,_=>if fC h x=true/\isStr y=true then fv false else UB
def ja(x y:PV)(h:PH):RV PV:=match alike x y h with
 | some b=> .ok (.bl b) h
 | none=> .no
def g7(x y:PV)(h:PH):RV PV:=match alike x y h with
 | some b=>if fC h x=true then .no else .ok (.bl (!b)) h
 | none=> .no
theorem Bb{ρ : List U0}{H : Hp}{x y : PV}{x' y' : V}(h : jV x y = true)(rx : rel K ρ H x x')(ry : rel K ρ H y y') : Ds x' y' = true /\ decide (x' = y') = decide (x = y) := by
  cases x <;> cases y <;> first
    | exact absurd (show false = true from h) U4
    | (rw [rel] at rx; rw [rel] at ry; subst rx; subst ry; exact ⟨rfl, by simp⟩)
theorem oI(s:cG K ρ h H)(rx:rel K ρ H x x')(ry:rel K ρ H y y')(e:alike x y h=fv b) :
  (Ds x' y'=true∧b=decide (x'=y'))∨(∃ d d',bR K H d x'∧bR K H d' y'∧d.canLay0=true∧d'.canLay0=true∧min d.depth d'.depth<=64∧b=YY d d') ∨
  (fC h x=true∧b=false∧ ∃ p z,x'= .ref p∧y'= .str z∧ ∃ kvs,H p=fv (.dK kvs)):=by
 unfold alike at e;split at e
 . rename_i hs;cases e;obtain⟨z,w⟩:=Bb hs rx ry;exact .inl ⟨z,w.symm⟩
 . split at e
   . rename_i a c e1 e2;split at e
     . rename_i hc;cases e;exact .inr (.inl ⟨a,c,dat.v s 6 x a x' e1 rx,dat.v s 6 y c y' e2 ry,hc.1,hc.2.1,hc.2.2,rfl⟩)
     . nomatch e
   . split at e
     . rename_i hc;cases e;refine .inr (.inr ⟨hc.1,rfl,?_⟩);obtain⟨c1,c2⟩:=hc;cases x with
       | ref n =>
        cases y with
        | str z =>
         obtain⟨a,ea,rfl⟩:=rx
         simp only[fC] at c1
         split at c1
         . rename_i kvs en;obtain⟨kws,e1,_⟩:=s.ob n _ a en ea;exact⟨a,z,rfl,ry,kws,e1⟩
         . cases c1
        | _=>cases c2
       | _=>cases c1
     . nomatch e
theorem RZ:b6 X pg k-> ∃ r,cC X (Vf .Eq) r/\lW X.K r ja:=λA=>⟨_,Qg.or ((Ln A.room.units).or (Ek A.room.Kj)),fun ρ h H x y x' y' Q v h' s rx ry q P=>by
 unfold ja at q;split at q
 . rename_i b e;cases q;have fin:=P _ ρ H (.refl _ _) s (by rw[rel]);rcases oI s rx ry e with⟨z,rfl⟩ | ⟨d,d',h1,h2,h3,h4,h5,rfl⟩ | ⟨_,rfl,p,z,e1,e2,kvs,e3⟩
   . exact .inl ⟨z,fin⟩
   . exact .inr (.inl ⟨d,d',h1,h2,h3,h4,h5,fin⟩)
   . exact .inr (.inr ⟨p,z,e1,e2,.inr (.inr ⟨kvs,e3⟩),fin⟩)
 . cases q⟩
theorem RI:b6 X pg k-> ∃ r,cC X (Vf .NotEq) r/\lW X.K r g7:=λA=>⟨_,NK.or (JK A.room.units),fun ρ h H x y x' y' Q v h' s rx ry q P=>by
 unfold g7 at q;split at q
 . rename_i b e;split at q
   . nomatch q
   . rename_i hd;cases q;have fin:=P _ ρ H (.refl _ _) s (by rw[rel]);rcases oI s rx ry e with⟨z,rfl⟩ | ⟨d,d',h1,h2,h3,h4,h5,rfl⟩ | ⟨z,_⟩
     . exact .inl ⟨z,fin⟩
     . exact .inr ⟨d,d',h1,h2,h3,h4,h5,fin⟩
     . exact absurd z hd
 . nomatch q⟩
noncomputable def O5(K:UC)(f:Bool->Bool):R2:=λx y H Q=> ∃ p vs xs d,y= .ref p/\(gB K H p vs\/dQ K H p vs)/\eL K H xs vs/\bR K H d x/\Wm xs=true/\d.canLay0=true/\min (Xg xs) d.depth<=60/\Q (.bl (f (xs.any λz=>YY z d))) H
theorem Lb(hr:X.A.units+64 < XD):cC X (Vf .In) (O5 X.K id):=by
 rintro pins s σ H x y v u Q I rx ry ⟨p,vs,xs,d,e,hq,h1,h2,c1,c2,hd,q⟩;subst e;obtain⟨bs,rb⟩:=bR.reads I d x v h2 rx;rcases hq with hq | hq
 . obtain⟨as,ra⟩:=bR.reads I (.list xs) (.ref p) u (by exact⟨p,vs,rfl,hq,h1⟩) ry;exact SeqAt.in_list_reads ra rb c1 c2 (by omega) ⟨.bl _,H,I,rfl,q⟩
 . obtain⟨as,ra⟩:=bR.reads I (.tuple xs) (.ref p) u (by exact⟨p,vs,rfl,hq,h1⟩) ry;exact SeqAt.in_tuple_reads ra rb c1 c2 (by omega) ⟨.bl _,H,I,rfl,q⟩
theorem zc(hr:X.A.units+64 < XD):cC X (Vf .NotIn) (O5 X.K not):=by
 rintro pins s σ H x y v u Q I rx ry ⟨p,vs,xs,d,e,hq,h1,h2,c1,c2,hd,q⟩;subst e;obtain⟨bs,rb⟩:=bR.reads I d x v h2 rx;rcases hq with hq | hq
 . obtain⟨as,ra⟩:=bR.reads I (.list xs) (.ref p) u (by exact⟨p,vs,rfl,hq,h1⟩) ry;exact SeqAt.notIn_list_reads ra rb c1 c2 (by omega) ⟨.bl _,H,I,rfl,q⟩
 . obtain⟨as,ra⟩:=bR.reads I (.tuple xs) (.ref p) u (by exact⟨p,vs,rfl,hq,h1⟩) ry;exact SeqAt.notIn_tuple_reads ra rb c1 c2 (by omega) ⟨.bl _,H,I,rfl,q⟩
noncomputable def PB(f:Bool->Bool):R2:=λx y H Q=> ∃ a o,y= .ref a/\i8 H a x o/\Q (.bl (f o.isSome)) H
theorem Km(hu:X.A.units+1 < XD):cC X (Vf .In) (PB id):=by
 rintro pins s σ H x y v u Q I rx ry ⟨a,o,e,g,q⟩;subst e;obtain rfl:u=U6 a:=ry;exact Rt hu I g rx λs' I'=>⟨.bl _,H,I',rfl,q⟩
theorem zF(hu:X.A.units+1 < XD):cC X (Vf .NotIn) (PB not):=by
 rintro pins s σ H x y v u Q I rx ry ⟨a,o,e,g,q⟩;subst e;obtain rfl:u=U6 a:=ry;exact En hu I g rx λs' I'=>⟨.bl _,H,I',rfl,q⟩
def itemsOf(h:PH):PV->Option (List PV)
 | .tup xs=>fv xs
 | .ktup xs=>fv xs
 | .ref n=>cj h n
 | _=>UB
theorem cG.items(s:cG K ρ h H)(e:itemsOf h x=fv xs)(r:rel K ρ H x v): ∃ a vs,v= .ref a/\(gB K H a vs\/dQ K H a vs)/\aq K ρ H xs vs:=by
 cases x with
 | tup ys=>cases e;obtain⟨a,vs,e1,e2,e3⟩:=rel.seq (x:= .tup xs) rfl r;exact⟨a,vs,e1,.inr e2,e3⟩
 | ktup ys=>cases e;obtain⟨a,vs,e1,e2,e3⟩:=rel.seq (x:= .ktup xs) rfl r;exact⟨a,vs,e1,.inr e2,e3⟩
 | ref n=>obtain⟨a,vs,e1,_,e2,e3⟩:=s.sq e r;exact⟨a,vs,e1,.inl e2,e3⟩
 | _=>cases e
noncomputable def eT:PV->Bool
 | .non=>true
 | .bl _=>true
 | .int _=>true
 | .str _=>true
 | _=>false
noncomputable def MZ:PV->PV->Bool
 | .non,.non=>true
 | .bl a,.bl b=>a == b
 | .bl a,.int b=>(if a then 1 else 0) == b
 | .int a,.bl b=>a == (if b then 1 else 0)
 | .int a,.int b=>a == b
 | .str a,.str b=>a == b
 | _,_=>false
theorem uz(h:eT x=true)(r:rel K ρ H x v):gU v=true:=by
 cases x<;>first | (revert h;simp [eT];done) | (subst r;rfl)
theorem FE(hx : eT x = true)(hy : eT y = true)(rx : rel K ρ H x v)(ry : rel K ρ H y w) : DO v w = MZ x y := by
  cases x <;> first
    | (exfalso; revert hx; simp [eT]; done)
    | (cases y <;> first
        | (exfalso; revert hy; simp[eT]; done)
        | (subst rx; subst ry; rfl))
theorem Ha(hx:eT x=true)(rx:rel K ρ H x v): ∀{xs vs},xs.all eT=true->aq K ρ H xs vs->vs.all gU=true/\jC v vs=xs.any λz=>MZ z x
 | [],vs,_,r=>by subst r;exact⟨rfl,rfl⟩
 | y::t,vs,h,r=>by
  obtain⟨w,u,rfl,r1,r2⟩:=au.mp r;simp only[U3,XI] at h;obtain⟨a,b⟩:=Ha hx rx h.2 r2;refine⟨by rw[XI,uz h.1 r1,a];rfl,?_⟩;unfold jC at b ⊢;rw[WG,WG,b,FE h.1 hx r1 rx]
def isIn(x y:PV)(h:PH):Option Bool:=match itemsOf h y with
 | some xs=>if (eT x&&xs.all eT)=true then fv (xs.any λz=>MZ z x) else(match dat 6 h x,bA (λj=>dat 6 h (.ref j)) xs with
  | some d,fv ds=>if Wm ds=true/\d.canLay0=true/\min (Xg ds) d.depth<=60 then fv (ds.any λz=>YY z d) else UB
  | _,_=>UB)
 | none=>(match y with
  | .ref n=>(match h[n]? with
   | some (.dct kvs)=>(gY x).map λk=>(cv kvs k).isSome
   | _=>UB)
  | .str j=>(match x with
   | .str i=>fv (!(W5 j i 0 j.length 1).isEmpty)
   | _=>UB)
  | _=>UB)
def j8(x y:PV)(h:PH):RV PV:=match isIn x y h with
 | some b=> .ok (.bl b) h
 | none=> .no
def og(x y:PV)(h:PH):RV PV:=match isIn x y h with
 | some b=> .ok (.bl (!b)) h
 | none=> .no
theorem qb(s:cG K ρ h H)(rx:rel K ρ H x x')(ry:rel K ρ H y y')(e:isIn x y h=fv b) :
  (∃ p xs,y'= .ref p/\(gB K H p xs\/dQ K H p xs)/\gU x'=true/\xs.all gU=true/\b=jC x' xs) \/
  (∃ p vs xs d,y'= .ref p/\(gB K H p vs\/dQ K H p vs)/\eL K H xs vs/\bR K H d x'/\Wm xs=true/\d.canLay0=true/\min (Xg xs) d.depth<=60/\b=xs.any λz=>YY z d) \/
  (∃ a o,y'= .ref a/\i8 H a x' o/\b=o.isSome) \/
  (∃ i j,x'= .str i/\y'= .str j/\b= !(W5 j i 0 j.length 1).isEmpty):=by
 unfold isIn at e;split at e
 . rename_i xs ei;obtain⟨a,vs,rfl,z,r⟩:=s.items ei ry;split at e
   . rename_i hf;cases e;rw[U3] at hf;obtain⟨f1,f2⟩:=Ha hf.1 rx hf.2 r;exact .inl ⟨a,vs,rfl,z,uz hf.1 rx,f1,f2.symm⟩
   . split at e
     . rename_i d ds e1 e2;split at e
       . rename_i hc;cases e;exact .inr (.inl ⟨a,vs,ds,d,rfl,z,bA.v (λj d v w rv=>dat.v s 6 (.ref j) d v w rv) xs ds vs e2 r,dat.v s 6 x d x' e1 rx,hc.1,hc.2.1,hc.2.2,rfl⟩)
       . nomatch e
     . nomatch e
 . split at e
   . rename_i n ei;split at e
     . rename_i kvs en;cases q:gY x with
       | none=>simp_all
       | some key =>
        rw[q] at e
        cases e
        obtain⟨a,ea,rfl⟩:=ry
        obtain⟨kws,e1,e2⟩:=s.ob n _ a en ea
        have:=eP q rx
        subst this
        exact .inr (.inr (.inl ⟨a,_,rfl,i8.k (k:=key) e1,(RK.is key e2).symm⟩))
     . simp_all
   . split at e
     . cases e;exact .inr (.inr (.inr ⟨_,_,rx,ry,rfl⟩))
     . nomatch e
   . nomatch e
theorem Ro:b6 X pg k-> ∃ r,cC X (Vf .In) r/\lW X.K r j8:=λA=>⟨_,yX.or ((Lb A.room.units).or ((Km A.hu).or zI)),fun ρ h H x y x' y' Q v h' s rx ry q P=>by
 unfold j8 at q;split at q
 . rename_i b e;cases q;have fin:=P _ ρ H (.refl _ _) s (by rw[rel]);rcases qb s rx ry e with⟨p,xs,e1,e2,e3,e4,rfl⟩ | ⟨p,vs,xs,d,e1,e2,e3,e4,e5,e6,e7,rfl⟩ | ⟨a,o,e1,e2,rfl⟩ | ⟨i,j,e1,e2,rfl⟩
   . exact .inl ⟨p,xs,e1,e2,e3,e4,fin⟩
   . exact .inr (.inl ⟨p,vs,xs,d,e1,e2,e3,e4,e5,e6,e7,fin⟩)
   . exact .inr (.inr (.inl ⟨a,o,e1,e2,fin⟩))
   . exact .inr (.inr (.inr ⟨i,j,e1,e2,fin⟩))
 . cases q⟩
theorem Gu:b6 X pg k-> ∃ r,cC X (Vf .NotIn) r/\lW X.K r og:=λA=>⟨_,rS.or ((zc A.room.units).or ((zF A.hu).or rX)),fun ρ h H x y x' y' Q v h' s rx ry q P=>by
 unfold og at q;split at q
 . rename_i b e;cases q;have fin:=P _ ρ H (.refl _ _) s (by rw[rel]);rcases qb s rx ry e with⟨p,xs,e1,e2,e3,e4,rfl⟩ | ⟨p,vs,xs,d,e1,e2,e3,e4,e5,e6,e7,rfl⟩ | ⟨a,o,e1,e2,rfl⟩ | ⟨i,j,e1,e2,rfl⟩
   . exact .inl ⟨p,xs,e1,e2,e3,e4,fin⟩
   . exact .inr (.inl ⟨p,vs,xs,d,e1,e2,e3,e4,e5,e6,e7,fin⟩)
   . exact .inr (.inr (.inl ⟨a,o,e1,e2,fin⟩))
   . exact .inr (.inr (.inr ⟨i,j,e1,e2,fin⟩))
 . cases q⟩
noncomputable def fz(neg:Bool)(x:PV)(h:PH):RV PV:= .ok (.bl (if neg then !decide (x= .non) else decide (x= .non))) h
theorem FV(r:rel K ρ H x v):decide (v= .non)=decide (x= .non):=by
 cases x with
 | non=>subst r;rfl
 | bl=>subst r;rfl
 | int=>subst r;rfl
 | str=>subst r;rfl
 | ty=>subst r;rfl
 | tup=>obtain⟨a,_,rfl,_⟩:=r;rfl
 | ktup=>obtain⟨a,_,rfl,_⟩:=r;rfl
 | ref=>obtain⟨a,_,rfl⟩:=r;rfl
variable{a:Vu}{ma:ME}{pos pos':Pos}
theorem ve(neg:Bool)(s1:SE c K ta ma):SE c K (fun σ H Q=>ta σ H λx H1=>Q (.bl (if neg then !decide (x= .non) else decide (x= .non))) H1) (u9 (fz neg) ma):=fun ρ h H e σ Q v h' s r q P=>by
 obtain⟨x,h1,e1,q⟩:=bind_eq.mp q;cases q;refine s1 ρ h H e σ _ x _ s r e1 λx' ρ1 H1 g1 z1 r1=>?_;rw[FV r1];exact P _ ρ1 H1 g1 z1 (by rw[rel])
theorem I0(ha:JE X pg k a ma):JE X pg k (.Compare a [.Is] [.Constant .none j pos'] pos) (u9 (fz false) ma):=⟨λA=>by obtain⟨_,q1,s1⟩:=ha.h A;exact⟨_,IH q1,ve false s1⟩⟩
theorem JU(ha:JE X pg k a ma):JT X pg k (.Compare a [.Is] [.Constant .none j pos'] pos) (aA (u9 (fz false) ma)):=⟨λA=>by obtain⟨_,q1,s1⟩:=ha.h A;exact⟨_,H9 q1,qL (ve false s1)⟩⟩
theorem Ex(ha:JE X pg k a ma):JT X pg k (.Compare a [.IsNot] [.Constant .none j pos'] pos) (aA (u9 (fz true) ma)):=⟨λA=>by obtain⟨_,q1,s1⟩:=ha.h A;exact⟨_,DX q1,qL (ve true s1)⟩⟩
end
section
variable{K:UC}{X:Cx}{pg:Tb}{k:Nat}
abbrev MO:=CF->aZ->PH->RV (Option Int)
noncomputable def de:MO:=λ_ _ h=> .ok UB h
def bS(a:ME):MO:=λc e h=>(a c e h).bind λv h1=>match v with
 | .int i=> .ok (fv i) h1
 | _=> .no
def eW(xs:List PV)(lo hi:Option Int):=(xs.drop (HT.c8 xs.length 0 lo)).take (HT.c8 xs.length xs.length hi - HT.c8 xs.length 0 lo)
def E5(x:PV)(lo hi:Option Int)(h:PH):RV PV:=match x with
 | .tup xs=> .ok (.tup (eW xs lo hi)) h
 | .ref n=>(match cj h n with
  | some xs=> .ok (.ref h.length) (h++[.lst (eW xs lo hi)])
  | none=> .no)
 | _=> .no
def ph(a:ME)(l u:MO):ME:=λc e h=>(a c e h).bind λx h1=>(l c e h1).bind λlo h2=>(u c e h2).bind λhi h3=>E5 x lo hi h3
structure JO(X:Cx)(pg:Tb)(k:Nat)(e:Option Vu)(m:MO):Prop where
 h:b6 X pg k-> ∃ t,QO X e t/\ ∀ ρ h H e σ Q o h',cG X.K ρ h H->dM X.K ρ H e σ ->m (run pg k) e h= .ok o h'->lA X.K ρ H h' (Q o)->t σ H Q
theorem GH:JO X pg k UB de:=⟨λA=>⟨_,Gz,fun ρ h H e σ Q o h' s r q P=>by cases q;exact P ρ H (.refl _ _) s⟩⟩
theorem D8(ha:JE X pg k e ma):JO X pg k (fv e) (bS ma):=⟨λA=>by obtain⟨_,q1,s1⟩:=ha.h A;exact⟨_,Fi q1,fun ρ h H e σ Q o h' s r q P=>by
 obtain⟨v,h1,e1,q⟩:=bind_eq.mp q;refine s1 ρ h H e σ _ v h1 s r e1 λv' ρ1 H1 g1 z1 r1=>?_;cases v with
 | int i=>cases q;exact⟨i,r1,P ρ1 H1 g1 z1⟩
 | _=>cases q⟩⟩
theorem aq.cut(r:aq K ρ H xs vs) lo hi:aq K ρ H (eW xs lo hi) (lS vs lo hi):=by
 unfold eW lS;rw[<- r.len];exact(r.drop _).take _
theorem BX{lo p2}(ha:JE X pg k e ma)(hl:JO X pg k lo ml)(hh:JO X pg k hi mu):JE X pg k (.Subscript e (.Slice lo hi UB p2) pos) (ph ma ml mu):=⟨λA =>
 by obtain⟨_,q1,s1⟩:=ha.h A;exact by obtain⟨_,q2,s2⟩:=hl.h A;exact by obtain⟨_,q3,s3⟩:=hh.h A;exact⟨_,Cr Uw q1 q2 q3,fun ρ h H e σ Q v h' s r q P=>by
 obtain⟨x,h1,e1,q⟩:=bind_eq.mp q
 obtain⟨lo,h2,e2,q⟩:=bind_eq.mp q
 obtain⟨hi,h3,e3,q⟩:=bind_eq.mp q
 refine s1 ρ h H e σ _ x h1 s r e1 λx' ρ1 H1 g1 z1 r1=>?_
 refine s2 ρ1 h1 H1 e σ _ lo h2 z1 (r.gr g1) e2 fun ρ2 H2 g2 z2=>?_
 refine s3 ρ2 h2 H2 e σ _ hi h3 z2 (r.gr (g1.trans g2)) e3 fun ρ3 H3 g3 z3=>?_
 have r3:=rel.gr (K:=X.K) (g2.trans g3) _ _ r1
 have P3:=P.gr ((g1.trans g2).trans g3)
 cases x with
 | tup xs =>
  cases q
  obtain⟨a,vs,rfl,d1,d2⟩:=r3
  by_cases hw:HT.c8 vs.length 0 lo=0/\HT.c8 vs.length vs.length hi=vs.length
  . refine .inr (.inr ⟨a,vs,rfl,.of d1,hw,P3 _ ρ3 H3 (.refl _ _) z3 ?_⟩);have:eW xs lo hi=xs:=by
     unfold eW;rw[d2.len,hw.1,hw.2,aar,abe,<- d2.len,aby]
    rw[this];exact⟨a,vs,rfl,d1,d2⟩
  . exact .inr (.inl ⟨a,vs,rfl,.of d1,hw,λp hp=>mh z3 (d2.cut lo hi) P3 p hp⟩)
 | ref n =>
  simp only[E5] at q
  split at q
  . rename_i xs en;cases q;obtain⟨a,vs,rfl,_,d1,d2⟩:=z3.sq en r3;exact .inl ⟨a,vs,rfl,d1,λp hp=>cX z3 (d2.cut lo hi) P3 p hp⟩
  . cases q
 | _=>cases q⟩⟩
def bH:List PV->PH->RV PV:=λxs h=>match xs with
 | [x]=>(match itemsOf h x with
  | some ys=> .ok (.int ys.length) h
  | none=>(match x with
   | .str z=>kC z.length (.ok (.int z.length) h)
   | .ref n=>(match h[n]? with
    | some (.dct kvs)=> .ok (.int kvs.length) h
    | _=> .no)
   | _=> .no))
 | _=> .no
theorem aT(r:aq K ρ H [x] us): ∃ u,us=[u]/\rel K ρ H x u:=by
 obtain⟨v,t,rfl,r1,r2⟩:=au.mp r;exact⟨v,by rw[r2],r1⟩
theorem j6(r:aq K ρ H [x,y] us): ∃ u w,us=[u,w]/\rel K ρ H x u/\rel K ρ H y w:=by
 obtain⟨v,t,rfl,r1,r2⟩:=au.mp r;obtain⟨w,rfl,r3⟩:=aT r2;exact⟨v,w,rfl,r1,r3⟩
theorem N5:b6 X pg k-> ∃ r,aM X (.builtin "len") r/\xH X.K r bH:=λA=>⟨_,EJ.or zd,fun ρ h H xs us Q v h' s r q P=>by
 unfold bH at q;split at q
 . obtain⟨u,rfl,r1⟩:=aT r;have r:=r1;split at q
   . rename_i ys e;cases q;obtain⟨a,vs,rfl,z,r2⟩:=s.items e r;exact .inl (.inl ⟨a,vs,rfl,z,by rw[<- r2.len];exact P _ ρ H (.refl _ _) s (by rw[rel])⟩)
   . split at q
     . obtain⟨hl,q⟩:=jr.mp q;cases q;subst r;exact .inl (.inr ⟨_,rfl,hl,P _ ρ H (.refl _ _) s (by rw[rel])⟩)
     . split at q
       . rename_i e;cases q;obtain⟨a,ea,rfl⟩:=r;obtain⟨kws,e1,e2⟩:=s.ob _ _ a e ea;exact .inr ⟨a,kws,rfl,e1,by rw[<- RK.len e2];exact P _ ρ H (.refl _ _) s (by rw[rel])⟩
       . nomatch q
     . nomatch q
 . nomatch q⟩
inductive Ty where
 | non | bool | int | str | tuple | list | dict
 deriving DecidableEq
noncomputable def Ty.n:Ty->String
 | .non=> "NoneType" | .bool=> "bool" | .int=> "int" | .str=> "str" | .tuple=> "tuple" | .list=> "list" | .dict=> "dict"
noncomputable def Ty.of:String->Option Ty
 | "bool" =>fv .bool | "int" =>fv .int | "str" =>fv .str | "tuple" =>fv .tuple | "list" =>fv .list | "dict" =>fv .dict
 | _=>UB
noncomputable def Ty.NQ(a b:Ty):=decide (a=b)||(decide (a= .bool)&&decide (b= .int))
def tyP(h:PH):PV->Option Ty
 | .non=>fv .non
 | .bl _=>fv .bool
 | .int _=>fv .int
 | .str _=>fv .str
 | .tup _=>fv .tuple
 | .ref n=>(match h[n]? with
  | some (.lst _)=>fv .list
  | some (.dct _)=>fv .dict
  | _=>UB)
 | _=>UB
theorem B8(s:cG K ρ h H)(e:tyP h x=fv t)(r:rel K ρ H x v):jb K H v (.type t.n):=by
 cases x with
 | non=>cases e;subst r;exact .non
 | bl b=>cases e;subst r;exact .bl b
 | int i=>cases e;subst r;exact .int i
 | str z=>cases e;subst r;exact .str z
 | tup xs=>cases e;obtain⟨a,vs,rfl,e1,_⟩:=r;exact .tup e1
 | ref n =>
  obtain⟨a,ea,rfl⟩:=r
  simp only[tyP] at e
  split at e
  . rename_i en;cases e;obtain⟨vs,e1,_⟩:=s.ob n _ a en ea;exact .lst e1
  . rename_i en;cases e;obtain⟨vs,e1,_⟩:=s.ob n _ a en ea;exact .dK e1
  . cases e
 | _=>cases e
theorem BL(a b:Ty)(hb:b≠ .non):YR K (.type a.n) (.type b.n)=fv (a.NQ b):=by
 cases b<;>first | (exact absurd rfl hb) | (cases a<;>rfl)
theorem Ty.OS(h:Ty.of T=fv t):T=t.n/\t≠ .non:=by
 unfold Ty.of at h;split at h<;>first | (cases h;exact⟨rfl,by decide⟩) | cases h
def xt:List PV->Option (List Ty)
 | []=>fv []
 | .ty T::r=>(match Ty.of T,xt r with
  | some t,fv ts=>fv (t::ts)
  | _,_=>UB)
 | _=>UB
def i7:List PV->PH->RV PV:=λxs h=>match xs with
 | [x,.ty T]=>(match tyP h x,Ty.of T with
  | some a,fv b=> .ok (.bl (a.NQ b)) h
  | _,_=> .no)
 | [x,.tup ts]=>(match tyP h x,xt ts with
  | some a,fv bs=> .ok (.bl (bs.any a.NQ)) h
  | _,_=> .no)
 | _=> .no
theorem xo: ∀{ts bs vs},xt ts=fv bs->aq K ρ H ts vs->vs=(bs.map Ty.n).map V.ty/\ ∀ b∈bs,b≠ .non
 | [],bs,vs,e,r=>by cases e;subst r;exact⟨rfl,λ_ m=>by cases m⟩
 | .ty T::t,bs,vs,e,r=>by
  simp only[xt] at e;split at e
  . rename_i b bs' e1 e2;cases e;obtain⟨v,w,rfl,r1,r2⟩:=au.mp r;obtain⟨h1,h2⟩:=xo e2 r2;obtain⟨n1,n2⟩:=Ty.OS e1;refine⟨by rw[r1,h1,n1];rfl,λc m=>?_⟩;rcases UW.mp m with rfl | m
    . exact n2
    . exact h2 c m
  . cases e
 | .non::_,_,_,e,_=>by cases e
 | .bl _::_,_,_,e,_=>by cases e
 | .int _::_,_,_,e,_=>by cases e
 | .str _::_,_,_,e,_=>by cases e
 | .tup _::_,_,_,e,_=>by cases e
 | .ktup _::_,_,_,e,_=>by cases e
 | .ref _::_,_,_,e,_=>by cases e
theorem xG(a:Ty): ∀(bs:List Ty),(∀ b∈bs,b≠ .non)->aau K (.type a.n) ((bs.map Ty.n).map Xl)=fv (bs.any a.NQ)
 | [],_=>rfl
 | b::r,h=>by
  have h1:=BL (K:=K) a b (h b UX);have h2:=xG a r λc m=>h c (UZ _ m);simp only[UP,WG,aau,h1,h2];cases a.NQ b<;>rfl
theorem N8:b6 X pg k-> ∃ r,aM X (.builtin "isinstance") r/\xH X.K r i7:=λA=>⟨_,A7,fun ρ h H xs us Q v h' s r q P=>by
 unfold i7 at q;split at q
 . rename_i x T;split at q
   . rename_i a b e1 e2;cases q;obtain⟨u,w,rfl,r1,r2⟩:=j6 r;subst r2;obtain⟨n1,n2⟩:=Ty.OS e2;exact .inl ⟨u,T,_,_,rfl,B8 s e1 r1,by rw[n1];exact BL a b n2,P _ ρ H (.refl _ _) s (by rw[rel])⟩
   . nomatch q
 . split at q
   . rename_i a bs e1 e2;cases q;obtain⟨u,w,rfl,r1,r2⟩:=j6 r;obtain⟨p,vs,rfl,e3,e4⟩:=r2;obtain⟨h1,h2⟩:=xo e2 e4;subst h1;exact .inr ⟨u,p,_,_,_,rfl,e3,B8 s e1 r1,xG a bs h2,P _ ρ H (.refl _ _) s (by rw[rel])⟩
   . nomatch q
 . nomatch q⟩
noncomputable def uB:List PV->PH->RV PV:=λxs h=>match xs with
 | [.int i]=> .ok (.int i) h
 | [.bl b]=> .ok (.int (if b then 1 else 0)) h
 | _=> .no
theorem Np:b6 X pg k-> ∃ r,aM X (.type "int") r/\xH X.K r uB:=λA=>⟨_,F2,fun ρ h H xs us Q v h' s r q P=>by
 unfold uB at q;split at q
 . cases q;obtain⟨u,rfl,r1⟩:=aT r;have r:=r1;subst r;exact .inl ⟨_,rfl,P _ ρ H (.refl _ _) s (by rw[rel])⟩
 . cases q;obtain⟨u,rfl,r1⟩:=aT r;have r:=r1;subst r;exact .inr ⟨_,rfl,P _ ρ H (.refl _ _) s (by rw[rel])⟩
 . cases q⟩
def aY:List PV->PH->RV PV:=λxs h=>match xs with
 | [.tup ys]=> .ok (.tup ys) h
 | [.ref n]=>(match cj h n with
  | some ys=> .ok (.tup ys) h
  | none=> .no)
 | _=> .no
theorem Gv:b6 X pg k-> ∃ r,aM X (.type "tuple") r/\xH X.K r aY:=λA=>⟨_,Ep,fun ρ h H xs us Q v h' s r q P=>by
 unfold aY at q;split at q
 . cases q;obtain⟨u,rfl,r1⟩:=aT r;have r:=r1;have r':=r;obtain⟨a,vs,rfl,e1,e2⟩:=r;exact⟨a,vs,rfl,.inr ⟨.of e1,P _ ρ H (.refl _ _) s r'⟩⟩
 . split at q
   . rename_i ys e;cases q;obtain⟨u,rfl,r1⟩:=aT r;have r:=r1;obtain⟨a,vs,rfl,_,e1,e2⟩:=s.sq e r;exact⟨a,vs,rfl,.inl ⟨e1,λp hp=>mh s e2 P p hp⟩⟩
   . nomatch q
 . nomatch q⟩
def xA:List PV->PH->RV PV:=λxs h=>match xs with
 | [x]=>(match itemsOf h x with
  | some ys=> .ok (.ref h.length) (h++[.lst ys])
  | none=> .no)
 | _=> .no
theorem HK:b6 X pg k-> ∃ r,aM X (.type "list") r/\xH X.K r xA:=λA=>⟨_,rJ,fun ρ h H xs us Q v h' s r q P=>by
 unfold xA at q;split at q
 . split at q
   . rename_i ys e;cases q;obtain⟨u,rfl,r1⟩:=aT r;have r:=r1;obtain⟨a,vs,rfl,z,r2⟩:=s.items e r;exact⟨a,vs,rfl,z,λp hp=>cX s r2 P p hp⟩
   . nomatch q
 . nomatch q⟩
noncomputable def BH:List PV->PH->RV PV:=λxs h=>match xs with
 | [.int i]=> .ok (.int (if i < 0 then -i else i)) h
 | _=> .no
theorem Pz:b6 X pg k-> ∃ r,aM X (.builtin "abs") r/\xH X.K r BH:=λA=>⟨_,DT,fun ρ h H xs us Q v h' s r q P=>by
 unfold BH at q;split at q
 . cases q;obtain⟨u,rfl,r1⟩:=aT r;rw[rel] at r1;subst r1;exact⟨_,rfl,P _ ρ H (.refl _ _) s (by rw[rel])⟩
 . nomatch q⟩
noncomputable def nF:List PV->Option (List Int)
 | []=>fv []
 | .int b::r=>(nF r).map (b:: ·)
 | _=>UB
theorem tR: ∀{xs:List PV}{bs:List Int},nF xs=fv bs->xs=bs.map PV.int
 | [],bs,e=>by cases e;rfl
 | .int b::r,bs,e=>by
  rw[nF] at e;cases q:nF r with
  | none=>rw[q] at e;nomatch e
  | some cs=>rw[q] at e;cases e;rw[tR q];rfl
 | .non::_,_,e=>nomatch e
 | .bl _::_,_,e=>nomatch e
 | .str _::_,_,e=>nomatch e
 | .tup _::_,_,e=>nomatch e
 | .ktup _::_,_,e=>nomatch e
 | .ref _::_,_,e=>nomatch e
 | .ty _::_,_,e=>nomatch e
theorem tW{ρ :List U0}{H:Hp}: ∀{bs:List Int}{vs:List V},aq K ρ H (bs.map PV.int) vs->vs=bs.map V.int
 | [],vs,r=>bP.mp r
 | b::t,vs,r=>by
  obtain⟨v,w,rfl,r1,r2⟩:=au.mp r;rw[rel] at r1;rw[r1,tW r2];rfl
def xj{α :Type}(g:List PV->Option (List α))(f:List α ->PV):List PV->PH->RV PV:=λxs h=>match xs with
 | [.ref n]=>(match cj h n with
  | some ys=>(match g ys with
   | some bs=> .ok (f bs) h
   | none=> .no)
  | none=> .no)
 | _=> .no
theorem Ao(q:xj g f xs h= .ok v h'): ∃ n ys bs,xs=[.ref n]/\cj h n=fv ys/\g ys=fv bs/\v=f bs/\h'=h:=by
 unfold xj at q;split at q
 . split at q
   . split at q
     . cases q;exact⟨_,_,_,rfl,by assumption,by assumption,rfl,rfl⟩
     . nomatch q
   . nomatch q
 . nomatch q
def kn:=xj nF λbs=> .int bs.sum
theorem Nt:b6 X pg k-> ∃ r,aM X (.builtin "sum") r/\xH X.K r kn:=λA=>⟨_,Dv A.calm,fun ρ h H xs us Q v h' s r q P=>by
 obtain⟨n,ys,bs,rfl,e1,e2,rfl,rfl⟩:=Ao q;obtain⟨u,rfl,r1⟩:=aT r;have r:=r1;obtain⟨a,vs,rfl,_,z,r2⟩:=s.sq e1 r;rw[tR e2] at r2;exact⟨a,bs,rfl,by rw[tW r2] at z;exact z,P _ ρ H (.refl _ _) s (by rw[rel])⟩⟩
def bM:PV->PH->Bool:=λx h=>match x with
 | .ref n=>(match h[n]? with
  | some (.lst _)=>true
  | _=>false)
 | _=>false
theorem mW(s:cG K ρ h H)(r:rel K ρ H x v)(e:bM x h=true):Pm K "list" v H:=by
 cases x with
 | ref n =>
  simp only[bM] at e
  split at e
  . rename_i en;obtain⟨a,vs,rfl,_,e1,_⟩:=s.lst en r;exact .inl ⟨rfl,vs,.of e1⟩
  . cases e
 | _=>cases e
def bw:PV->List PV->PH->RV PV:=λx vs h=>match x,vs with
 | .ref n,[v]=>(match h[n]? with
  | some (.lst xs)=>if xs.length < UK then .ok .non (h.set n (.lst (xs++[v]))) else .no
  | _=> .no)
 | _,_=> .no
theorem C7:b6 X pg k-> ∃ r,Di X "list.append" r/\MY X.K "list" r bw bM:=λA=>⟨_,y9,fun ρ h H x x' s r e=>mW s r e,fun ρ h H x x' xs us Q v h' s rx rs q P=>by
 unfold bw at q;split at q
 . split at q
   . rename_i ys en;split at q
     . rename_i hl;cases q;obtain⟨a,vs,rfl,ea,e1,e2⟩:=s.lst en rx;obtain⟨u,rfl,r⟩:=aT rs;have g:Gr ρ H ρ (upd H a (.lst (vs++[u]))):=Gr.write (.inl ⟨_,e1⟩);exact⟨a,vs,u,rfl,rfl,e1,by rw[<- e2.len];exact hl,P _ ρ _ g (s.write en ea rfl rfl ⟨_,a9,aq.gr g _ _ (e2.app (aq.one r))⟩) (by rw[rel])⟩
     . nomatch q
   . nomatch q
 . nomatch q⟩
end
section
variable{K:UC}{X:Cx}{pg:Tb}{k:Nat}{tg l:Vu}
theorem qE{σ :L2.St}(I:Inv X pins σ H s): ∀ b∈[s.heap.objs.size],lZ X pins H b:=λb hb=>by
 have e:b=s.heap.objs.size:=by simpa using hb
 subst e;exact I.F4 (UL _) (I.bb.fresh (UL _))
theorem Az{pins:List (U0 × Obj)}{σ :L2.St}{H:Hp}{s:UM}{R:It->Hp->Prop}{a:U0}{xs:List V}(I:Inv X pins σ H s)(hq:gB X.K H a xs)(q:R (Sw X.K a) H):U2 (U8 X.prog X.w) X.A (abn (.ref a)) (OM X pins σ tg R) X.xe s:=by
 obtain⟨aj,rv,p,hz⟩:=I.list hq;exact wpAny_pyIter_list p.isList ⟨s.heap.objs.size,[s.heap.objs.size],_,_,H,rfl,I.kept (t':=s.toks) (λb o e=>UD _ e),zq a _,⟨_,UY _ rfl,rfl,rfl⟩,qE I,q⟩
theorem BP{pins:List (U0 × Obj)}{σ :L2.St}{H:Hp}{s:UM}{R:It->Hp->Prop}{a:U0}{xs:List V}(I:Inv X pins σ H s)(hq:dQ X.K H a xs)(q:R (Am X.K a) H):U2 (U8 X.prog X.w) X.A (abn (.ref a)) (OM X pins σ tg R) X.xe s:=by
 obtain⟨aj,rv,p,hz⟩:=I.tuple hq;exact Wr (show s.heap.IsTuple a aj.toArray from p) ⟨s.heap.objs.size,[s.heap.objs.size],_,_,H,rfl,I.kept (t':=s.toks) (λb o e=>UD _ e),wy a _,⟨_,UY _ rfl,rfl,rfl⟩,qE I,q⟩
theorem By{pins:List (U0 × Obj)}{σ :L2.St}{H:Hp}{s:UM}{R:It->Hp->Prop}{z:Str}{t:Tok}(I:Inv X pins σ H s)(q:R (Q1 z) H):U2 (U8 X.prog X.w) X.A (abn (.str z t)) (OM X pins σ tg R) X.xe s:=by
 cases ha:z.cps.all (· < 128)
 . exact wpAny_pyIter_wide ha ⟨s.heap.objs.size,[s.heap.objs.size],_,_,H,rfl,I.kept (t':=s.toks) (λb o e=>UD _ e),uG z t _ (by decide) (λA' hA=>Walks.strWide hA _ z t) (λ_ _ _ _ _ st h=>wpAny_pyIter_striter_wide st h),⟨_,UY _ rfl,rfl,rfl⟩,qE I,q⟩
 . exact wpAny_pyIter_ascii ha ⟨s.heap.objs.size,[s.heap.objs.size],_,_,H,rfl,I.kept (t':=s.toks) (λb o e=>UD _ e),uG z t _ (by decide) (λA' hA=>Walks.strAscii hA _ z t) (λ_ _ _ _ _ st h=>wpAny_pyIter_striter_ascii st h),⟨_,UY _ rfl,rfl,rfl⟩,qE I,q⟩
def NW(K:UC)(tl:TE):TI:=fun σ H R=>tl σ H λx H1=>(∃ a xs,x= .ref a/\gB K H1 a xs/\R (Sw K a) H1)\/(∃ a xs,x= .ref a/\dQ K H1 a xs/\R (Am K a) H1)\/ ∃ z,x= .str z/\R (Q1 z) H1
theorem Lx(hl:PE X l tl):PI X tg l (NW X.K tl):=by
 intro pins s σ H R I h;refine gZ (hl pins s σ H _ I h) λv s1 x H1 I1 r1 q1=>?_;rcases q1 with⟨a,xs,rfl,hq,q⟩ | ⟨a,xs,rfl,hq,q⟩ | ⟨z,rfl,q⟩
 . cases r1;exact Az I1 hq q
 . cases r1;exact BP I1 hq q
 . obtain⟨t,rfl⟩:=r1;exact By I1 q
def vq(x:PV)(h:PH):RV va:=match x with
 | .tup xs=> .ok ⟨UB,xs⟩ h
 | .ktup xs=> .ok ⟨UB,xs⟩ h
 | .str z=> .ok ⟨UB,z.cps.toList.map λc=> .str ⟨#[c]⟩⟩ h
 | .ref n=>(match cj h n with
  | some xs=> .ok ⟨fv n,xs⟩ h
  | none=> .no)
 | _=> .no
def my(a:ME):MI:=λc e h=>(a c e h).bind vq
end
section
variable{X:Cx}{pg:Tb}{k:Nat}{tg l:Vu}{ma:ME}{ta:TE}
theorem JL{K}(s1:SE c K ta ma):SI c K (NW K ta) (my ma):=fun ρ h H e σ R it h' s r q P=>by
 obtain⟨x,h1,e1,q⟩:=bind_eq.mp q;refine s1 ρ h H e σ _ x h1 s r e1 λx' ρ1 H1 g1 z1 r1=>?_;have tupc: ∀(xs:List PV),x.seq?=fv xs->it=⟨UB,xs⟩->h'=h1->(∃ a xs,x'= .ref a/\dQ K H1 a xs/\R (Am K a) H1):=λxs ex ei eh=>by
  subst ei eh;obtain⟨a,vs,rfl,zz,rr⟩:=rel.seq ex r1;refine⟨a,vs,rfl,zz,P ρ1 H1 _ g1 z1 λi ρ2 h2 H2 g s _=>?_⟩;have z2:=g.Dh zz;have r2:=aq.gr g _ _ rr;refine⟨λy e=>?_,λe=>⟨vs,z2,by rw[e,<- rr.len];exact UL _⟩⟩;obtain⟨v,d1,d2⟩:=r2.get e;refine⟨⟨vs,v,z2,d1⟩,?_⟩;rintro w H' ⟨rfl,hw⟩;have:=hw vs z2;rw[d1] at this;cases this;exact⟨ρ2,.refl _ _,s,d2⟩
 cases x with
 | tup xs=>cases q;exact .inr (.inl (tupc xs rfl rfl rfl))
 | ktup xs=>cases q;exact .inr (.inl (tupc xs rfl rfl rfl))
 | str z =>
  cases q
  refine .inr (.inr ⟨z,r1,P ρ1 H1 _ g1 z1 λi ρ2 h2 H2 g s _=>⟨λy e=>?_,λe=>by show i=z.cps.size;simpa using e⟩⟩)
  rw[U1] at e
  cases q:z.cps.toList[i]? with
  | none=>simp_all
  | some c =>
   rw[q] at e
   cases e
   have hc:z.cps[i]?=fv c:=by simpa using q
   refine⟨(Array.getElem?_eq_some_iff.mp hc).1,?_⟩
   rintro v H' ⟨rfl,c',e1,rfl⟩
   rw[hc] at e1
   cases e1
   exact⟨ρ2,.refl _ _,s,by rw[rel]⟩
 | ref n =>
  simp only[vq] at q
  split at q
  . rename_i xs en;cases q;obtain⟨a,vs,rfl,ea,zz,rr⟩:=z1.sq en r1;refine .inl ⟨a,vs,rfl,zz,P ρ1 H1 _ g1 z1 λi ρ2 h2 H2 g s hf=>?_⟩;have ea2:=g.pre _ _ ea;have hl:cj h2 n=fv xs:=by
     have:h2[n]?=fv (.lst xs)\/h2[n]?=fv (.jX xs):=by simpa [va.lY] using hf
     unfold cj;rcases this with q | q<;>rw[q]
    obtain⟨a',vs2,e3,e4,z2,r2⟩:=s.sq hl (show rel K ρ2 H2 (.ref n) (.ref a) by exact⟨a,ea2,rfl⟩);cases e3;refine⟨λy e=>?_,λe=>⟨vs2,z2,by rw[e,<- r2.len];exact UL _⟩⟩;obtain⟨v,d1,d2⟩:=r2.get e;refine⟨⟨vs2,v,z2,d1⟩,?_⟩;rintro w H' ⟨rfl,hw⟩;have:=hw vs2 z2;rw[d1] at this;cases this;exact⟨ρ2,.refl _ _,s,d2⟩
  . cases q
 | _=>cases q
theorem IQ(ha:JE X pg k l ma):JI X pg k tg l (my ma):=⟨λA=>by obtain⟨_,q1,s1⟩:=ha.h A;exact⟨_,⟨Lx q1.h⟩,JL s1⟩⟩
def ak lo n:=(Vq n).map λ(i:Nat)=>PV.int (lo+(i))
def bf(r:MA):MI:=λc e h=>(r c e h).bind λvs h1=>match vs with
 | [.int j]=>if -(2 ^ 62)<=j/\j < 2 ^ 62 then .ok ⟨UB,ak 0 j.toNat⟩ h1 else .no
 | _=> .no
theorem zo{K} lo n:Tc K ρ H (QM lo n) ⟨UB,ak lo n⟩:=λi ρ1 h1 H1 g s _=>by
 refine⟨λy e=>?_,λe=>by show n<=i;rw[e];simp[ak]⟩;unfold ak at e;rw[U1] at e;rcases Wu i n with z | z
 . rw[List.getElem?_range z] at e;cases e;exact⟨z,λv H'=>by rintro ⟨e1,e2⟩;exact by subst e1;subst e2;exact⟨ρ1,.refl _ _,s,by rw[rel]⟩⟩
 . simp_all
variable{a b:Vu}{p pos:Pos}{mr:MA}
theorem zH(hg:Gl X "range")(ha:JA X pg k [a] mr)(hs:Vk [a] X.env=[(false,Wt a X.env)]:=by rfl):JI X pg k tg (.Call (.Name "range" p) [a] [] pos) (bf mr):=⟨λA =>
 by obtain⟨_,q1,s1⟩:=ha.h A;exact⟨_,⟨yV hg (A.blt _ (by decide)) q1.h hs⟩,fun ρ h H e σ R it h' s r q P=>by
 obtain⟨vs,h1,e1,q⟩:=bind_eq.mp q
 refine s1 ρ h H e σ _ vs h1 s r e1 λus ρ1 H1 g1 z1 r1=>?_
 split at q
 . rename_i j;split at q
   . rename_i hj;cases q;obtain⟨u,rfl,r2⟩:=aT r1;subst r2;exact⟨j,rfl,hj.1,hj.2,P ρ1 H1 _ g1 z1 (zo 0 _)⟩
   . nomatch q
 . nomatch q⟩⟩
abbrev MP:=CF->aZ->PH->RV (List (Key × PV))
noncomputable def EV:MP:=λ_ _ h=> .ok [] h
def jh(a b:ME)(r:MP):MP:=λc e h=>(a c e h).bind λx h1=>match gY x with
 | some key=>(b c e h1).bind λv h2=>(r c e h2).bind λkvs h3=> .ok ((key,v)::kvs) h3
 | none=> .no
def cH(kvs more:List (Key × PV)):=more.foldl (λacc kv=>mT acc kv.1 kv.2) kvs
def xR(r:MP):ME:=λc e h=>(r c e (h++[.dct []])).bind λkvs h1=>if h1[h.length]?=fv (.dct [])/\kvs.length<=15 then .ok (.ref h.length) (h1.set h.length (.dct (cH [] kvs))) else .no
structure JP(X:Cx)(pg:Tb)(k:Nat)(pos:Pos)(ks:List (Option Vu))(vs:List Vu)(m:MP):Prop where
 h:b6 X pg k-> ∃ t,QP X pos ks vs t/\ ∀ ρ h H e σ Q kvs h',cG X.K ρ h H->dM X.K ρ H e σ ->m (run pg k) e h= .ok kvs h'->(∀ kws ρ' H',Gr ρ H ρ' H'->cG X.K ρ' h' H'->RK X.K ρ' H' kvs kws->Q (kws.map λkv=>(kV kv.1,kv.2)) H')->kH t σ H Q
theorem Ib:JP X pg k pos [] [] EV:=⟨λA=>⟨_,FU,fun ρ h H e σ Q kvs h' s r q P=>by cases q;exact P [] ρ H (.refl _ _) s .nil⟩⟩
theorem Dp(hk:JE X pg k kk mk)(hv:JE X pg k v mv)(hr:JP X pg k pos ks vs mp):JP X pg k pos (fv kk::ks) (v::vs) (jh mk mv mp):=⟨λA =>
 let ⟨_,q1,s1⟩:=hk.h A;let ⟨_,q2,s2⟩:=hv.h A;by obtain⟨_,q3,s3⟩:=hr.h A;exact⟨_,BN q1 q2 q3,fun ρ h H e σ Q kvs h' s r q P=>by
 obtain⟨x,h1,e1,q⟩:=bind_eq.mp q
 refine s1 ρ h H e σ _ x h1 s r e1 λx' ρ1 H1 g1 z1 r1=>?_
 split at q
 . rename_i key ek;obtain⟨v,h2,e2,q⟩:=bind_eq.mp q;obtain⟨kvs',h3,e3,q⟩:=bind_eq.mp q;cases q;refine s2 ρ1 h1 H1 e σ _ v h2 z1 (r.gr g1) e2 λv' ρ2 H2 g2 z2 r2=>?_;refine s3 ρ2 h2 H2 e σ _ kvs' _ z2 (r.gr (g1.trans g2)) e3 λkws ρ3 H3 g3 z3 r3=>?_;have:=P ((key,v')::kws) ρ3 H3 ((g1.trans g2).trans g3) z3 (.cons ⟨rfl,rel.gr g3 _ _ r2⟩ r3);rw[eP ek r1];exact this
 . cases q⟩⟩
theorem RK.merge{K}: ∀{more mw kvs kws},RK K ρ H more mw->RK K ρ H kvs kws->RK K ρ H (cH kvs more) (cq kws mw)
 | _,_,_,_,.nil,r=>r
 | _,_,_,_,.cons (a:=p) (b:=q) a t,r=>by
  show RK K ρ H (cH (mT _ p.1 p.2) _) (cq (putK _ q.1 q.2) _);refine RK.merge t ?_;rw[<- a.1];exact RK.put r a.2
theorem GJ(h:JP X pg k pos ks vs mp)(hall:ks.all (·.isSome)=true)(hl:ks.length=vs.length)(h0:ks≠[])(h15:ks.length<=15):JE X pg k (.Dict ks vs pos) (xR mp):=⟨λA =>
 by obtain⟨_,q1,s1⟩:=h.h A;exact⟨_,Gf q1 hall hl h0 h15,fun ρ h H e σ Q v h' s r q P p hp=>by
 obtain⟨kvs,h1,e1,q⟩:=bind_eq.mp q
 split at q
 . rename_i hc;cases q;have g0:Gr ρ H (ρ ++[p]) (upd H p (.dK [])):=Gr.new hp [p];have s0:cG X.K (ρ ++[p]) (h++[.dct []]) (upd H p (.dK [])):=s.new hp ⟨[],a9,.nil⟩;refine s1 (ρ ++[p]) _ _ e σ _ kvs h1 s0 (r.gr g0) e1 λkws ρ1 H1 g1 z1 r1=>?_;have ep:(ρ ++[p])[h.length]?=fv p:=by rw[<- s.len,Vd (UL _)];simp
   have ep1:=g1.pre _ _ ep;obtain⟨kw0,e2,e3⟩:=z1.ob h.length _ p hc.1 ep1;cases e3;refine⟨e2,kws,rfl,by rw[<- RK.len r1];exact hc.2,?_⟩;have gw:Gr ρ1 H1 ρ1 (upd H1 p (.dK (cq [] kws))):=Gr.write (.inr ⟨_,e2⟩);refine P _ ρ1 _ ((g0.trans g1).trans gw) (z1.write hc.1 ep1 rfl rfl ⟨_,a9,RK.merge (Paired.iT gw r1) .nil⟩) ?_;exact⟨p,ep1,rfl⟩
 . cases q⟩⟩
def qa(kvs:List (Key × PV))(a:ME):ME:=λc e h=>(a c e h).bind λx h1=>match gY x with
 | some key=>(match cv kvs key with
  | some v=> .ok v h1
  | none=> .no)
 | none=> .no
variable{x:Str}{kvs:List (Key × PV)}{i:Vu}{mi:ME}{pos':Pos}
theorem GN(hd:pg.xa x=fv kvs)(hg:Gl X x)(hi:JE X pg k i mi)(hs:GI i)(hdb:(x == ("__debug__"))=false:=by decide):JE X pg k (.Subscript (.Name x pos') i pos) (qa kvs mi):=⟨λA =>
 by obtain⟨a,kws,e1,e2,e3⟩:=A.xa x kvs hd;exact by obtain⟨_,q1,s1⟩:=hi.h A;exact⟨_,DF e2 (Fc hg e1 hdb) q1 hs,fun ρ h H e σ Q v h' s r q P=>by
 obtain⟨y,h1,d1,q⟩:=bind_eq.mp q
 refine s1 ρ h H e σ _ y h1 s r d1 λy' ρ1 H1 g1 z1 r1=>?_
 split at q
 . rename_i key ek;split at q
   . rename_i w ew;cases q;obtain⟨u,f1,f2⟩:=RK.some (e3 ρ1 H1) ew;exact⟨key,u,eP ek r1,f1,P _ ρ1 H1 g1 z1 f2⟩
   . nomatch q
 . nomatch q⟩⟩
def Bt(d a b:ME):ME:=λc e h=>(d c e h).bind λx h1=>if fC h1 x=true then(a c e h1).bind (λy h2=>(b c e h2).bind λz h3=>match x,gY y with
 | .ref n,fv key=>(match h3[n]? with
  | some (.dct kvs)=> .ok ((cv kvs key).getD z) h3
  | _=> .no)
 | _,_=> .no) else .no
theorem ES(ho:JE X pg k o md)(he:JE X pg k e me)(hf:JE X pg k f mf)(m:M2 X o "get" apos e f cpos):JE X pg k (.Call (.Attribute o "get" apos) [e,f] [] cpos) (Bt md me mf):=⟨λA =>
 let ⟨_,q1,s1⟩:=ho.h A;let ⟨_,q2,s2⟩:=he.h A;let ⟨_,q3,s3⟩:=hf.h A;⟨_,CB A.hu q1 q2 q3 m,fun ρ h H e σ Q v h' s r q P=>by
 obtain⟨x,h1,e1,q⟩:=bind_eq.mp q
 refine s1 ρ h H e σ _ x h1 s r e1 λx' ρ1 H1 g1 z1 r1=>?_
 split at q
 . rename_i hd;obtain⟨y,h2,e2,q⟩:=bind_eq.mp q;obtain⟨z,h3,e3,q⟩:=bind_eq.mp q;cases x with
   | ref n =>
    obtain⟨a,ea,rfl⟩:=r1
    refine⟨a,rfl,?_,?_⟩
    . simp only[fC] at hd;split at hd
      . rename_i kvs0 en;obtain⟨kws,d1,_⟩:=z1.ob n _ a en ea;exact .inl ⟨kws,.inl d1⟩
      . cases hd
    refine s2 ρ1 h1 H1 e σ _ y h2 z1 (r.gr g1) e2 λy' ρ2 H2 g2 z2 r2=>?_
    refine s3 ρ2 h2 H2 e σ _ z h3 z2 (r.gr (g1.trans g2)) e3 λz' ρ3 H3 g3 z3 r3=>?_
    cases ek:gY y with
    | none=>simp only[ek] at q;nomatch q
    | some key =>
     simp only[ek] at q
     split at q
     . rename_i kvs en;cases q;obtain⟨kws,d1,d2⟩:=z3.ob n _ a en (g3.pre _ _ (g2.pre _ _ ea));have:=eP ek r2;subst this;refine⟨_,i8.k (k:=key) d1,P _ ρ3 H3 ((g1.trans g2).trans g3) z3 ?_⟩;have:=RK.val key d2;cases p1:cv kvs key<;>cases p2:gj kws key<;>rw[p1,p2] at this<;>first | exact r3 | exact this | exact Wz this
     . nomatch q
   | _=>cases hd
 . nomatch q⟩⟩
end
section
variable{K:UC}{X:Cx}{pg:Tb}{k:Nat}
def pairP?:PV->Option (Key × PV)
 | .tup [a,v]=>(gY a).map λk=>(k,v)
 | _=>UB
noncomputable def jF:List PV->Option (List (Key × PV))
 | []=>fv []
 | x::r=>(match pairP? x,jF r with
  | some p,fv ps=>fv (p::ps)
  | _,_=>UB)
section
variable{prog:Vl}{w:VE}{A:Wf}{E:UH->UM->Prop}{s:UM}
theorem nG{p:U0}{kvs:List (Key × UH)}{R:UH->UM->Prop}(hS:(p == VP)=false)(hp:s.heap.DictOf (aJ prog w) p kvs)(hz:kvs.length<=UK)
  (q: ∀ g:VO,g.DictOf (aJ prog w) s.heap.objs.size (merged [] kvs)->(∀ b o,s.heap.get? b=fv o->g.get? b=fv o)->R (.ref s.heap.objs.size) { s with heap:=g}) :
  U2 (U8 prog w) A (call (.type "dict") [.ref p]) R E s:=by
 let g0:=s.heap.push { cls:= .type "dict",data:= .dict #[]}
 have up: ∀ b o,s.heap.get? b=fv o->g0.get? b=fv o:=λb o e=>UD _ e;have dn:g0.DictOf (aJ prog w) s.heap.objs.size []:=Z4 s.heap;have dp:=hp.at λo e=>up p o e;have ne:s.heap.objs.size≠p:=λe=>by
  obtain⟨o,_,_,ho,_⟩:=hp;exact absurd (UT ho) (by rw[e];exact Vr _)
 refine callType_codes (Q₁ :=λz u=>z= .ref s.heap.objs.size/\u={ s with heap:=g0}) F.kt_called_dict (F.kt_typeCall_dict_1 _) F.entry_dict_init (kt_code_dict_new _ ⟨rfl,rfl⟩) ?_;rintro obj s1 ⟨rfl,rfl⟩;refine⟨dn.typeIs,F.args_dict_init_2 _ _,?_⟩
 with_unfolding_all refine UA (m:=Zo _ _) (UA (aad dn.typeIs (UO ?_)))
 show U2 _ _ (ZC "dict.__init__" s.heap.objs.size (.ref p) [] .none) _ _ _;refine UA (Xr dp.typeIs ?_);refine UA (UA (UA (wpAny_isInstance dp.typeIs isSubtype_dict_dict ?_)));refine UA (Z3 dp.typeIs F.slot_dict_iter.lookup (UO ?_));refine UA (UO (wpAny_mergeDict (hsz:=by simpa using hz) ne hS dn dp λg dg _ sb=>?_));exact UA (UO (UO ⟨rfl,q g dg λb o e=>(sb.2 b (U7 (UT e))).trans (up b o e)⟩))
end
def L6:List V->Hp->VK->Prop:=λxs H Q=> ∃ p kvs,xs=[.ref p]/\H p=fv (.dK kvs)/\kvs.length<=UK/\ ∀ d,H d=UB->Q (.ref d) (upd H d (.dK (cq [] kvs)))
theorem wB:aM X (.type "dict") L6:=by
 intro pins s σ H xs us Q I r h;obtain⟨p,kvs,rfl,hp,hz,q⟩:=h;obtain⟨u,rfl,ru⟩:=vals1 r;cases(show u=U6 p from ru);obtain⟨z1,n1,vs,r1,d1⟩:=tu I.bb hp;refine nG n1 d1 (by rw[<- r1.length];exact z1) λg dd keep=>?_;have hle:(cq [] kvs).length<=UK:=by have:=dE kvs [];simp at this;omega
 obtain⟨hn,I'⟩:=I.kW (a:=s.heap.objs.size) (o:= .dK (cq [] kvs)) (t':=s.toks) keep (Wv (UL _)) (rQ hle (beq_eq_false_iff_ne.mpr (W2 (U7 I.big))) (KV.sQ r1) dd);exact⟨.ref _,_,I',rfl,q _ hn⟩
def xE:List PV->PH->RV PV:=λxs h=>match xs with
 | [.tup ys]=>(match jF ys with
  | some kvs=>if ys.length < UK then .ok (.ref h.length) (h++[.dct (cH [] kvs)]) else .no
  | none=> .no)
 | [.ref n]=>(match h[n]? with
  | some (.dct kvs)=>if kvs.length<=UK then .ok (.ref h.length) (h++[.dct (cH [] kvs)]) else .no
  | _=> .no)
 | _=> .no
theorem FG(e:pairP? x=fv p)(r:rel K ρ H x v): ∃ q ,pV H v q/\p.1=q.1/\rel K ρ H p.2 q.2:=by
 cases x with
 | tup xs =>
  match xs,e with
  | [a,w],e =>
   simp only[pairP?] at e
   cases q:gY a with
   | none=>simp_all
   | some key =>
    rw[q] at e
    cases e
    obtain⟨b,vs,rfl,e1,e2⟩:=r
    obtain⟨u,u',rfl,r1,r2⟩:=j6 e2
    have:=eP q r1
    subst this
    exact⟨(key,u'),⟨b,rfl,e1⟩,rfl,r2⟩
 | _=>cases e
theorem tD: ∀{xs kvs vs},jF xs=fv kvs->aq K ρ H xs vs-> ∃ kws,VH (pV H) vs kws/\RK K ρ H kvs kws
 | [],kvs,vs,e,r=>by cases e;subst r;exact⟨[],.nil,.nil⟩
 | x::t,kvs,vs,e,r=>by
  simp only[jF] at e;split at e
  . rename_i p ps e1 e2;cases e;obtain⟨v,w,rfl,r1,r2⟩:=au.mp r;obtain⟨q,a,b⟩:=FG e1 r1;obtain⟨qs,c,d⟩:=tD e2 r2;exact⟨q::qs,.cons a c,.cons b d⟩
  . cases e
theorem xP(s:cG K ρ h H)(r:RK K ρ H kvs kws)(P:dN K ρ H (.ref h.length) (h++[.dct kvs]) Q) p (hp:H p=UB):Q (.ref p) (upd H p (.dK kws)):=by
 refine P _ (ρ ++[p]) _ (Gr.new hp [p]) (s.new hp ⟨kws,a9,Paired.iT (Gr.new hp [p]) r⟩) ?_;exact⟨p,by rw[<- s.len,Vd (UL _)];simp,rfl⟩
theorem Jo:b6 X pg k-> ∃ r,aM X (.type "dict") r/\xH X.K r xE:=λA=>⟨_,(Bc A.calm).or wB,fun ρ h H xs us Q v h' s r q P=>by
 unfold xE at q;split at q
 . split at q
   . rename_i kvs e;split at q
     . rename_i hl;cases q;obtain⟨u,rfl,r1⟩:=aT r;obtain⟨a,vs,rfl,e1,e2⟩:=r1;obtain⟨kws,c,d⟩:=tD e e2;exact .inl ⟨a,vs,kws,rfl,e1,c,by rw[<- e2.len];exact hl,λp hp=>xP s (RK.merge d .nil) P p hp⟩
     . nomatch q
   . nomatch q
 . rename_i n;split at q
   . rename_i kvs en;split at q
     . rename_i hl;cases q;obtain⟨u,rfl,r1⟩:=aT r;obtain⟨a,ea,rfl⟩:=r1;obtain⟨kws,e1,e2⟩:=s.ob n _ a en ea;exact .inr ⟨a,kws,rfl,e1,by rw[<- RK.len e2];exact hl,λp hp=>xP s (RK.merge e2 .nil) P p hp⟩
     . nomatch q
   . nomatch q
 . nomatch q⟩
theorem k7{α :Type}{le}: ∀{l1 l2:List α},(∀ a∈l1,∀ b∈l1,le a b->le b a->a=b)->l1.Perm l2->l1.Pairwise le->l2.Pairwise le->l1=l2
 | [],l2,_,p,_,_=>List.Perm.nil_eq p
 | a::r,[],_,p,_,_=>absurd p.length_eq (by simp)
 | a::r,b::r',anti,p,h1,h2=>by
  rw[YZ] at h1 h2;have hb:=p.mem_iff.mpr UX;have e:a=b:=by
   rcases UW.mp (p.mem_iff.mp (UX)) with e | m
   . exact e
   . rcases UW.mp hb with e | m'
     . exact e.symm
     . exact anti a UX b hb (h1.1 b m') (h2.1 a m)
  subst e;rw[k7 (λx hx y hy=>anti x (UZ _ hx) y (UZ _ hy)) (List.Perm.cons_inv p) h1.2 h2.2]
noncomputable def oN a b:= !decide (iO b a)
def dJ(ss:List Str):=ss.mergeSort oN
theorem gc a b c (h1:oN a b=true) (h2:oN b c=true):oN a c=true:=by
 unfold oN at h1 h2 ⊢;simp only[WS,decide_eq_false_iff_not] at h1 h2 ⊢;intro h;by_cases e:b=a
 . subst e;exact h2 h
 . rcases kZ e with z | z
   . exact h1 z
   . exact h2 (iZ h z)
theorem iQ a b:(oN a b||oN b a)=true:=by
 unfold oN;by_cases h:iO b a
 . simp [p5 h]
 . simp [h]
theorem tH(h1 : oN a b = true)(h2 : oN b a = true) : a = b := by
  unfold oN at h1 h2;simp only [WS, decide_eq_false_iff_not] at h1 h2
  exact Decidable.byContradiction fun e => by rcases kZ e with z | z; · exact h2 z
                                              . exact h1 z
theorem yQ: ∀{r p},risingS p r=true->(p::r).Pairwise λa b=>oN a b=true:=by
 intro r
 induction r with
 | nil=>intro p _;exact ZF _ _
 | cons x r ih =>
  intro p h
  simp only[risingS,U3] at h
  have h1:oN p x=true:=by
   have:=h.1;rw[ltCps_eq] at this;exact this
  have h2:=ih h.2
  refine YZ.mpr ⟨λy hy=>?_,h2⟩
  rcases UW.mp hy with rfl | m
  . exact h1
  . exact gc _ _ _ h1 ((YZ.mp h2).1 y m)
theorem zB(h:Ze ss=true):ss.Pairwise λa b=>oN a b=true:=by
 cases ss with
 | nil=>exact .nil
 | cons p r=>exact yQ h
theorem mJ(p:ss'.Perm ss)(h:Ze ss'=true):ss'=dJ ss :=
 k7 (le:=λa b=>oN a b=true) (λ_ _ _ _ h1 h2=>tH h1 h2) (p.trans (XA ss oN).symm) (zB h) (Xa gc (λa b=>by simpa using iQ a b) ss)
noncomputable def cz:List PV->Option (List Str)
 | []=>fv []
 | .str x::r=>(cz r).map (x:: ·)
 | _=>UB
theorem fV: ∀{xs ss},cz xs=fv ss->xs=ss.map PV.str
 | [],bs,e=>by cases e;rfl
 | .str b::r,bs,e=>by
  rw[cz] at e;cases q:cz r with
  | none=>simp_all
  | some cs=>rw[q] at e;cases e;rw[fV q];rfl
 | .non::_,_,e=>by cases e
 | .bl _::_,_,e=>by cases e
 | .int _::_,_,e=>by cases e
 | .tup _::_,_,e=>by cases e
 | .ktup _::_,_,e=>by cases e
 | .ref _::_,_,e=>by cases e
 | .ty _::_,_,e=>by cases e
theorem eE: ∀ ss,cz (ss.map PV.str)=fv ss
 | []=>rfl
 | b::r=>by rw[UP,cz,eE r];rfl
theorem b9: ∀{ss:List Str}{vs},aq K ρ H (ss.map PV.str) vs↔vs=ss.map V.str
 | [],vs=>bP
 | b::t,vs=>by
  constructor
  . rintro ⟨v,w,rfl,r1,r2⟩;rw[r1,b9.mp r2];rfl
  . rintro rfl;exact⟨.str b,t.map V.str,rfl,by rw[rel],b9.mpr rfl⟩
noncomputable def vX:List PV->Option (List (Str × Int))
 | []=>fv []
 | .tup [.str x,.int i]::r=>(vX r).map ((x,i):: ·)
 | _=>UB
noncomputable def fg(q:Str × Int):PV:= .tup [.str q.1,.int q.2]
theorem sH: ∀ ps,vX (ps.map fg)=fv ps
 | []=>rfl
 | b::r=>by rw[UP,fg,vX,sH r];rfl
theorem Gx: ∀{xs ps},vX xs=fv ps->xs=ps.map fg:=by
 intro xs
 induction xs with
 | nil=>intro ps e;cases e;rfl
 | cons x r ih =>
  intro ps e
  unfold vX at e
  split at e
  . simp_all
  . rename_i y i r' h;cases h;cases q:vX r with
    | none=>simp_all
    | some cs=>rw[q] at e;cases e;rw[ih q];rfl
  . cases e
theorem kc: ∀{ps vs},aq K ρ H (ps.map fg) vs↔VH (jd H) vs ps
 | [],vs=>⟨λh=>by subst h;exact .nil,λh=>by cases h;exact bP.mpr rfl⟩
 | b::t,vs=>by
  constructor
  . rintro ⟨v,w,rfl,r1,r2⟩;obtain⟨a,us,rfl,e1,e2⟩:=r1;obtain⟨u,u',rfl,d1,d2⟩:=j6 e2;subst d1 d2;exact .cons ⟨a,rfl,e1⟩ (kc.mp r2)
  . intro h;cases h with
    | cons h1 h2 =>
     obtain⟨a,rfl,e1⟩:=h1
     refine⟨.ref a,_,rfl,?_,kc.mpr h2⟩
     exact⟨a,_,rfl,e1,au.mpr ⟨_,_,rfl,by rw[rel],aq.one (by rw[rel])⟩⟩
theorem Bk: ∀{ps:List (Str × Int)},(ps.map (·.1)).Nodup-> ∀{a b},a∈ps->b∈ps->a.1=b.1->a=b
 | [],_,a,b,ha,_,_=>by cases ha
 | p::r,nd,a,b,ha,hb,e=>by
  rw[UP] at nd;rw[WN] at nd;rcases UW.mp ha with ha | ha<;>rcases UW.mp hb with hb | hb
  . rw[ha,hb]
  . exact absurd (by rw[<- ha,e];exact Vg.mpr ⟨b,hb,rfl⟩) nd.1
  . exact absurd (by rw[<- hb,<- e];exact Vg.mpr ⟨a,ha,rfl⟩) nd.1
  . exact Bk nd.2 ha hb e
def mV(ps:List (Str × Int)):=ps.mergeSort λa b=>oN a.1 b.1
theorem Av(nd:(ps.map (·.1)).Nodup)(p:ps'.Perm ps)(h:(ps'.map (·.1)).Pairwise iO):ps'=mV ps:=by
 have h2:ps'.Pairwise λa b=>oN a.1 b.1=true:=by
  rw[X9] at h;exact h.imp λ{a b} z=>by unfold oN;simp[p5 z]
 refine k7 (le:=λa b=>oN a.1 b.1=true) (λa ha b hb z1 z2=>?_) (p.trans (XA ps _).symm) h2 (Xa (λa b c=>gc a.1 b.1 c.1) (λa b=>by simpa using iQ a.1 b.1) ps);have e:=tH z1 z2;have ha':=p.mem_iff.mp ha;have hb':=p.mem_iff.mp hb;exact Bk nd ha' hb' e
def kr:List PV->PH->RV PV:=λxs h=>match xs with
 | [x]=>(match itemsOf h x with
  | some ys=>(match x with
   | .ref _=>(match cz ys with
    | some ss=>if ss.length < 64 then .ok (.ref h.length) (h++[.lst ((dJ ss).map PV.str)]) else .no
    | none=>(match vX ys with
     | some ps=>if ps.length < 64/\(ps.map (·.1)).Nodup then .ok (.ref h.length) (h++[.lst ((mV ps).map fg)]) else .no
     | none=> .no))
   | _=> .no)
  | none=>(match x with
   | .ref n=>(match h[n]? with
    | some (.dct kvs)=>(match cz (kvs.map λkv=>match kv.1 with | .inl i=> .int i | .inr z=> .str z) with
     | some ss=>if ss.length < 64 then .ok (.ref h.length) (h++[.lst ((dJ ss).map PV.str)]) else .no
     | none=> .no)
    | _=> .no)
   | _=> .no))
 | _=> .no
theorem RK.keys: ∀{kvs kws},RK K ρ H kvs kws->kws.map (·.1)=kvs.map (·.1)
 | _,_,.nil=>rfl
 | _,_,.cons a t=>by rw[UP,UP,RK.keys t,a.1]
theorem keys_str: ∀{kvs:List (Key × PV)}{ss:List Str},(kvs.map λkv=>(match kv.1 with | .inl i=>PV.int i | .inr z=>PV.str z))=ss.map PV.str->kvs.map (·.1)=ss.map VY
 | [],ss,e=>by simp_all
 | (.inl i,v)::r,ss,e=>by cases ss with | nil=>cases e | cons=>simp at e
 | (.inr z,v)::r,ss,e=>by
  cases ss with
  | nil=>cases e
  | cons y t =>
   rw[UP,UP,abN] at e
   rw[UP,keys_str e.2]
   cases e.1;rfl
theorem tM(A:b6 X pg k):xH X.K (λxs H Q=>BI X.K xs H Q\/(AQ xs H Q\/wd X.K xs H Q)) kr:=fun ρ h H xs us Q v h' s r q P=>by
 unfold kr at q;split at q
 . obtain⟨u,rfl,r1⟩:=aT r;split at q
   . rename_i ys e;split at q
     . obtain⟨a,vs,rfl,_,z,r2⟩:=s.sq e r1;split at q
       . rename_i ss es;split at q
         . rename_i hl;cases q;rw[fV es,b9] at r2;subst r2;refine .inl ⟨a,ss,rfl,z,hl,λl ss' hp pm so=>?_⟩;rw[mJ pm so];exact cX s (b9.mpr rfl) P l hp
         . simp_all
       . split at q
         . rename_i ps eps;split at q
           . rename_i hl;cases q;rw[Gx eps,kc] at r2;refine .inr (.inr ⟨a,vs,ps,rfl,z,r2,hl.1,hl.2,λl ys' ps' hp pm so pr=>?_⟩);have:=Av hl.2 pm so;subst this;exact cX s (kc.mpr pr) P l hp
           . simp_all
         . nomatch q
     . nomatch q
   . split at q
     . rename_i n _;split at q
       . rename_i kvs en;split at q
         . rename_i ss es;split at q
           . rename_i hl;cases q;obtain⟨a,ea,rfl⟩:=r1;obtain⟨kws,e1,e2⟩:=s.ob n _ a en ea;refine .inr (.inl ⟨a,kws,ss,rfl,e1,by rw[RK.keys e2];exact keys_str (fV es),hl,λl ss' hp pm so=>?_⟩);rw[mJ pm so];exact cX s (b9.mpr rfl) P l hp
           . nomatch q
         . nomatch q
       . nomatch q
     . nomatch q
 . nomatch q
end
section
variable{X:Cx}{pins:List (U0 × Obj)}{σ :L2.St}{H:Hp}{s:UM}{h':VO}
theorem BV{turned:List U0}(I:Inv X pins σ H s)(kp: ∀ b o,b ∉ turned->s.heap.get? b=fv o->h'.get? b=fv o)(fp: ∀ b∈turned,lZ X pins H b):Inv X pins σ H { s with heap:=h',toks:=t'}:=by
 have away: ∀ b u,H b=fv u->b ∉ turned:=λb u e m=>by
  have:=(fp b m).1;rw[e] at this;cases this
 refine I.step (g':=s.gens) (d':=s.drawn) (ch:=turned) (λb m=>?_) (λb o _ _ n e _=>kp b o n e) (λb o _ _ n e _=>⟨o.slots,kp b o n e⟩) (λ_ _ _ _ e=>e) (λb o n e=>⟨o,kp b o n e⟩) (λ_ _ e=>e) (λ_ _ _ e=>e) (λb ps e=>⟨#[],by simp_all⟩) (λm hm=>?_) (λb u e=>?_) I.bare
 . obtain⟨_,a2,_,a4,a5,a6⟩:=fp b m;exact⟨a4,a2,a5,a6⟩
 . obtain⟨o,es,ep,ho,r⟩:=hm;exact⟨o,es,ep,kp _ o (λm=>(fp _ m).2.1 rfl) ho,r⟩
 . refine(I.bb b u e).qQ (λc v hc q=>kp c v ?_ q) (λ_ q=>q) λ_ _ q=>q;rcases hc with z | z
   . rw[z];exact away b u e
   . exact away c _ z
theorem qp{turned:List U0}{p:U0}(I:Inv X pins σ H s)(kp: ∀ b o,b ∉ turned->s.heap.get? b=fv o->h'.get? b=fv o)(fp: ∀ b∈turned,lZ X pins H b)(hp:s.heap.objs.size<=p)
  (new:aW X.prog X.w (upd H p (.tup vs)) h' p (.tup vs)):Inv X pins σ (upd H p (.tup vs)) { s with heap:=h',toks:=t'}:=by
 have hn:=I.bb.fresh hp;have away: ∀ b u,H b=fv u->b ∉ turned:=λb u e m=>by
  have:=(fp b m).1;rw[e] at this;cases this
 have old: ∀ b o,s.heap.get? b=fv o->b≠p:=λb o e z=>absurd (US (UT e) (z ▸ hp)) (Vr _);refine I.step (g':=s.gens) (d':=s.drawn) (ch:=turned) (λb m=>?_) (λb o _ _ n e _=>kp b o n e) (λb o _ _ n e _=>⟨o.slots,kp b o n e⟩) (λb o _ e n=>by rw[ax (old b o e)];exact n) (λb o n e=>⟨o,kp b o n e⟩)
  (λb xs e=>by rw[ax (ay e hn)];exact e) (λb o u e=>by rw[ax (ay e hn)];exact e) (λb ps e=>⟨#[],by rw[ax (ay e hn),e];simp⟩) (λm hm=>?_) (λb u e=>?_) I.bare
 . obtain⟨_,a2,_,a4,a5,a6⟩:=fp b m;exact⟨a4,a2,a5,a6⟩
 . obtain⟨o,es,ep,ho,r⟩:=hm;exact⟨o,es,ep,kp _ o (λm=>(fp _ m).2.1 rfl) ho,r⟩
 . by_cases hb:b=p
   . subst hb;rw[a9] at e;cases e;exact new
   . rw[ax hb] at e;refine(I.bb b u e).qQ (λc v hc q=>kp c v ?_ q) (λc q=>by rw[ax (ay q hn)];exact q) λc xs q=>by rw[ax (ay q hn)];exact q
     rcases hc with z | z
     . rw[z];exact away b u e
     . exact away c _ z
end
def TB(K : UC)(a1 a2 : U0) : It :=
  ⟨λi H => ∃ xs ys x y, dQ K H a1 xs /\ dQ K H a2 ys /\ xs[i]? = fv x /\ ys[i]? = fv y,
   λi H v H' => ∃ p x y, H p = UB /\ v = .ref p /\ H' = upd H p (.tup [x, y]) /\ (∀ xs, dQ K H a1 xs -> xs[i]? = fv x) /\ ∀ ys, dQ K H a2 ys -> ys[i]? = fv y,
   λi H => ∃ xs ys, dQ K H a1 xs /\ dQ K H a2 ys /\ (xs.length <= i ∨ ys.length <= i)⟩
theorem zv{TI TO}(Z:uH h z TI TO i1 i2 l1 l2 k)(kp: ∀ b∈[z,TI,TO,i1,i2],∀ o,h.get? b=fv o->h'.get? b=fv o):uH h' z TI TO i1 i2 l1 l2 k:=by
 obtain ⟨a,b,⟨u,v,c⟩,⟨o1,d1,d2⟩,⟨o2,e1,e2⟩⟩:=Z;exact ⟨kp _ (by simp) _ a,kp _ (by simp) _ b,⟨u,v,kp _ (by simp) _ c⟩,⟨o1,kp _ (by simp) _ d1,d2⟩,⟨o2,kp _ (by simp) _ e1,e2⟩⟩
theorem BA{K TI TO}(D:abi z TI TO i1 i2 a1 a2) :
  Turn P w K (.Tuple els j pos) (TB K a1 a2) [z,TI,TO,i1,i2] z (λi h=>uH h z TI TO i1 i2 a1 a2 i) where
 mem:=by simp
 obj:=λi h Z b hb=>by
  obtain⟨e1,e2,⟨u,v,e3⟩,⟨o4,e4,_,d4⟩,⟨o5,e5,_,d5⟩⟩:=Z;simp only[Vc,or_false,UW] at hb;rcases hb with rfl | rfl | rfl | rfl | rfl
  . exact⟨_,e1,λv q=>by cases q⟩
  . exact⟨_,e2,λv q=>by cases q⟩
  . exact⟨_,e3,λv q=>by cases q⟩
  . exact⟨_,e4,λv q=>by rw[d4] at q;nomatch q⟩
  . exact⟨_,e5,λv q=>by rw[d5] at q;nomatch q⟩
 keep:=λi h h' Z kp=>zv Z kp
 item:=by
  intro X hP hw hK hc i pins s σ H E I hf Z hg;subst hP hw hK;obtain⟨xs,ys,x,y,s1,s2,ex,ey⟩:=hg;obtain⟨us,ru,pu,_⟩:=I.tuple s1;obtain⟨ws,rw',pw,_⟩:=I.tuple s2;obtain⟨ux,eu,rx⟩:=ru.get ex;obtain⟨uy,ew,ry⟩:=rw'.get ey;refine mZ D Z pu pw (by simpa using eu) (by simpa using ew) λh1 f1 f2 f3 f4 f5 f6 f7=>⟨_,rfl,?_⟩
  refine wpAny_letOwnedTupleGo_zip (s:={ s with heap:=h1}) f1 λh2 g1 g2=>?_;have ex1:=g2.extBut;have zlt:=UT Z.zM;have pz:=WD zlt;have new:=ex1 _ _ pz f6;have hn:=I.bb.fresh (UL _);have I2:Inv X pins σ (upd H s.heap.objs.size (.tup [x,y])) { s with heap:=h2,toks:=s.toks}:=by
   refine qp (turned:=[z,TO,i1,i2]) I (λb o nb e=>?_) (λb hb=>hf b ?_) (UL _) ?_
   . simp only[UW,Vc,or_false,not_or] at nb;exact ex1 _ _ nb.1 (f7 b o nb.1 nb.2.1 nb.2.2.1 nb.2.2.2 e)
   . simp only[UW,Vc,or_false] at hb ⊢;rcases hb with rfl | rfl | rfl | rfl<;>simp
   . exact⟨by show 2<=UK;decide,[ux,uy],.cons rx (.cons ry .nil),_,new,rfl,_,rfl,rfl⟩
  refine⟨.ref s.heap.objs.size,upd H s.heap.objs.size (.tup [x,y]),I2,rfl,⟨_,x,y,hn,rfl,rfl,λxs' q=>?_,λys' q=>?_⟩,?_,λb hb=>?_⟩
  . rw[I.iW q s1];exact ex
  . rw[I.iW q s2];exact ey
  . obtain⟨o4,e4,c4⟩:=f4;obtain⟨o5,e5,c5⟩:=f5;exact⟨g1,ex1 _ _ D.TIz f2,⟨_,_,ex1 _ _ D.TOz f3⟩,⟨o4,ex1 _ _ D.i1z e4,c4⟩,⟨o5,ex1 _ _ D.i2z e5,c5⟩⟩
  . have hb0:=(hf b hb).1;have: ∃ o,s.heap.get? b=fv o:=by
     obtain⟨e1,e2,⟨u,v,e3⟩,⟨o4,e4,_⟩,⟨o5,e5,_⟩⟩:=Z;simp only[Vc,or_false,UW] at hb;rcases hb with rfl | rfl | rfl | rfl | rfl
     . exact⟨_,e1⟩
     . exact⟨_,e2⟩
     . exact⟨_,e3⟩
     . exact⟨_,e4⟩
     . exact⟨_,e5⟩
    obtain⟨o,eo⟩:=this;rw[ax (U7 (UT eo))];exact hb0
 done:=by
  intro X hP hw hK hc i pins s σ H E I hf Z hg;subst hP hw hK;obtain⟨xs,ys,s1,s2,he⟩:=hg;obtain⟨us,ru,pu,_⟩:=I.tuple s1;obtain⟨ws,rw',pw,_⟩:=I.tuple s2;refine pv (I.ok.hd hc) D Z pu pw ?_ λh1 kp=>⟨rfl,BV (turned:=[z,TO,i1,i2]) (t':=s.toks) I (λb o nb e=>?_) λb hb=>hf b ?_⟩
  . have l1:=ru.length;have l2:=rw'.length;rcases he with he | he
    . simp_all
    . simp_all
  . simp only[UW,Vc,or_false,not_or] at nb;exact kp b o nb.1 nb.2.1 nb.2.2.1 nb.2.2.2 e
  . grind
 self:=λA i s Q E Z h=>wpAny_pyIter_zip Z.zM h
abbrev tI(a:U0):Obj:={ cls:= .type "tuple_iterator",data:= .fields #[.ref a,.int 0 0]}
abbrev Qy(h:VO)(a b:U0):VO :=
 Wc (Wc (Wc (Wc (Wc h (tI a)) (tI b)) { cls:= .type "tuple",data:= .seq #[.ref h.objs.size,.ref (h.objs.size+1)]}) { cls:= .type "tuple",data:= .seq #[.none,.none]})
  { cls:= .type "zip",data:= .fields #[.none,.bool false,.bool false,.ref (h.objs.size+2),.ref (h.objs.size+3)]}
theorem rF a b us ws:abG (XT.«zip.__new__» ⟨[.type "zip",.ref a,.ref b],[]⟩) (λ_ R u=>u.heap.IsTuple a us/\u.heap.IsTuple b ws/\R (.ok (.ret (.ref (u.heap.objs.size+4)))) { u with heap:=Qy u.heap a b}) :=
 .of_wp λprog w A R u hu=>by
  obtain⟨hp,gg,dd,tk,os⟩:=u;obtain⟨ha,hb,hr⟩:=hu;have sub:=sub_zip;have fa:=ha;have fb:Heap.IsTuple (Shared.heap ⟨hp.push (tI a),gg,dd,tk,os⟩) b ws:=by obtain⟨o,e,c⟩:=hb;exact⟨o,UD _ e,c⟩
  wp_walk using Wr fa,Wr fb
  refine⟨_,rfl,?_⟩;simp only[Vy];exact hr
section
variable{X:Cx}{pg:Tb}{k:Nat}{a b:Vu}{ma mb:ME}{p pos:Pos}{els:List Vu}{j:Nat}{tpos:Pos}
theorem Iq h l1 l2:uH (Qy h l1 l2) (h.objs.size+4) (h.objs.size+2) (h.objs.size+3) h.objs.size (h.objs.size+1) l1 l2 0/\(Qy h l1 l2).objs.size=h.objs.size+5:=by
 have n1:(Wc h (tI l1)).objs.size=h.objs.size+1:=Vy ..;have n2:(Wc (Wc h (tI l1)) (tI l2)).objs.size=h.objs.size+2:=by rw[Vy,n1]
 have n3:(Wc (Wc (Wc h (tI l1)) (tI l2)) { cls:= .type "tuple",data:= .seq #[.ref h.objs.size,.ref (h.objs.size+1)]}).objs.size=h.objs.size+3:=by rw[Vy,n2]
 have n4:(Wc (Wc (Wc (Wc h (tI l1)) (tI l2)) { cls:= .type "tuple",data:= .seq #[.ref h.objs.size,.ref (h.objs.size+1)]}) { cls:= .type "tuple",data:= .seq #[.none,.none]}).objs.size=h.objs.size+4:=by rw[Vy,n3]
 refine⟨⟨?_,?_,⟨.none,.none,?_⟩,⟨tI l1,?_,rfl,rfl⟩,⟨tI l2,?_,rfl,rfl⟩⟩,by rw[Vy,n4]⟩
 . rw[<- n4];exact UY _ rfl
 . refine UD _ (UD _ ?_);rw[<- n2];exact UY _ rfl
 . refine UD _ ?_;rw[<- n3];exact UY _ rfl
 . exact UD _ (UD _ (UD _ (UD _ (UY _ rfl))))
 . refine UD _ (UD _ (UD _ ?_));rw[<- n1];exact UY _ rfl
def PJ(K:UC)(ta:TA):TI:=fun σ H R=>ta σ H λvs H1=> ∃ a1 a2 xs ys,vs=[.ref a1,.ref a2]/\dQ K H1 a1 xs/\dQ K H1 a2 ys/\R (TB K a1 a2) H1
theorem JM(hg:Gl X "zip")(hm:X.mg "zip" =UB)(ha:PA X [a,b] ta)(hs:Vk [a,b] X.env=[(false,Wt a X.env),(false,Wt b X.env)])(hs2:Vk [b] X.env=[(false,Wt b X.env)]) :
  PI X (.Tuple els j tpos) (.Call (.Name "zip" p) [a,b] [] pos) (PJ X.K ta):=by
 intro pins s σ H R I h;refine Call_ (g8 I hg hm boot_zip (VN (Ad (ha pos pins s σ H _ I h) λus s1 vs H1 I1 r1 ⟨a1,a2,xs,ys,e,q1,q2,q⟩=>?_) (by simp_all) (by rw[hs2];rfl)));subst e;cases r1 with
 | cons ra rr =>
  cases rr with
  | cons rb rr =>
   cases rr
   cases ra
   cases rb
   obtain⟨u1,_,p1,_⟩:=I1.tuple q1
   obtain⟨u2,_,p2,_⟩:=I1.tuple q2
   refine callType_new F.called_zip (by decide) (F.typeCall_zip_2 _ _) (F.newCall_zip_2 _ _) (λobj=>F.args_object_init_3 obj _ _) F.entry_zip_new (rF a1 a2 u1.toArray u2.toArray) ⟨p1,p2,?_⟩
   obtain⟨Z,zs⟩:=Iq s1.heap a1 a2
   have lt1:=let ⟨_,e,_⟩:=p1;UT e
   have lt2:=let ⟨_,e,_⟩:=p2;UT e
   refine⟨⟨_,Z.zM,rfl⟩,wpAny_pyIter_zip Z.zM ?_⟩
   have kp: ∀ c o,s1.heap.get? c=fv o->(Qy s1.heap a1 a2).get? c=fv o:=λc o e=>UD _ (UD _ (UD _ (UD _ (UD _ e))))
   refine⟨s1.heap.objs.size+4,[s1.heap.objs.size+4,s1.heap.objs.size+2,s1.heap.objs.size+3,s1.heap.objs.size,s1.heap.objs.size+1],_,_,H1,rfl,I1.kept (t':=s1.toks) kp,BA (zipApart_new lt1 lt2),Z,λc hc=>?_,q⟩
   have hle:s1.heap.objs.size<=c:=by
    grind
   exact I1.F4 hle (I1.bb.fresh hle)
def Lq(a b:ME):MI:=λc e h=>(a c e h).bind λx h1=>(b c e h1).bind λy h2=>match x.seq?,y.seq? with
 | some xs,fv ys=> .ok ⟨UB,(xs.zip ys).map λp=> .tup [p.1,p.2]⟩ h2
 | _,_=> .no
theorem MD(hg:Gl X "zip")(ha:JE X pg k a ma)(hb:JE X pg k b mb)(hs1:noStar a=true:=by rfl)(hs2:noStar b=true:=by rfl):JI X pg k (.Tuple els j tpos) (.Call (.Name "zip" p) [a,b] [] pos) (Lq ma mb):=⟨λA =>
 let ⟨_,q1,s1⟩:=ha.h A;let ⟨_,q2,s2⟩:=hb.h A
 ⟨_,⟨JM hg (A.blt _ (by decide +kernel)) (qk q1 (qk q2 vT hs2) hs1).h (by rw[ba hs1,ba hs2];rfl) (by rw[ba hs2];rfl)⟩,fun ρ h H e σ R it h' s r q P=>by
 obtain⟨x,h1,e1,q⟩:=bind_eq.mp q
 obtain⟨y,h2,e2,q⟩:=bind_eq.mp q
 refine s1 ρ h H e σ _ x h1 s r e1 λx' ρ1 H1 g1 z1 r1=>?_
 refine s2 ρ1 h1 H1 e σ _ y h2 z1 (r.gr g1) e2 λy' ρ2 H2 g2 z2 r2=>?_
 split at q
 . rename_i xs ys ex ey;cases q;obtain⟨a1,us,rfl,t1,d1⟩:=rel.seq ex (rel.gr g2 _ _ r1);obtain⟨a2,ws,rfl,t2,d2⟩:=rel.seq ey r2;refine⟨a1,a2,us,ws,rfl,t1,t2,P ρ2 H2 _ (g1.trans g2) z2 λi ρ3 h3 H3 g s3 _=>⟨λv ev=>?_,λei=>?_⟩⟩
   . rw[U1] at ev;cases ez:(xs.zip ys)[i]? with
     | none=>simp_all
     | some pr =>
      rw[ez] at ev
      cases ev
      obtain⟨zx,zy⟩:=List.getElem?_zip_eq_some.mp ez
      obtain⟨u,f1,f2⟩:=(aq.gr g _ _ d1).get zx
      obtain⟨w,f3,f4⟩:=(aq.gr g _ _ d2).get zy
      refine⟨⟨us,ws,u,w,g.Dh t1,g.Dh t2,f1,f3⟩,?_⟩
      rintro v' H' ⟨p,u',w',hp,rfl,rfl,k1,k2⟩
      have:=k1 us (g.Dh t1)
      rw[f1] at this;cases this
      have:=k2 ws (g.Dh t2)
      rw[f3] at this;cases this
      have gn:Gr ρ3 H3 ρ3 (upd H3 p (.tup [u,w])):=Gr.wI hp
      refine⟨ρ3,gn,s3.tup hp,?_⟩
      exact⟨p,_,rfl,a9,au.mpr ⟨_,_,rfl,rel.gr gn _ _ f2,aq.one (rel.gr gn _ _ f4)⟩⟩
   . refine⟨us,ws,g.Dh t1,g.Dh t2,?_⟩;have:i=min xs.length ys.length:=by simpa using ei
     rw[<- d1.len,<- d2.len];omega
 . cases q⟩⟩
end
structure aN(P:Vl)(w:VE)(K:UC)(mg:Str->Option UH)(pg:Tb)(f:String)(d:Df)(st:Z8)(N:List Str):Prop where
 at_:At K mg (UI f) st
 sc:dZ N d.ps (az st)
 len:N.length=d.ps.length+d.nl
 bd: ∀(kV doc pm:UH)(an:Option U0)(cdv ct:UH)(us:List UH),us.length=d.ps.length->XF (V2 (UI f) (UI f) (cA st) (bo st) (az st) .none kV doc pm an cdv ct) ⟨us,[]⟩=pure (d.ps.zip us)
 body: ∀(base:VO)(fa:U0)(cdv:UH)(A:Wf)(outer:List Env)(s:UM)(H:Hp)(E:XK)(k:Nat),zY (jZ uQ P w K mg base N (UI f) (az st) fa cdv A outer s H E).sC pg k (bo st) d.body
section
variable{P:Vl}{w:VE}{K:UC}{mg:Str->Option UH}{pg:Tb}
theorem aN.good{st}(g:aN P w K mg pg f d st N):mH P w K mg base pg f d:=⟨st,N,g.at_,g.sc,g.len,g.bd,g.body base⟩
theorem AH{fnT:List (String × Df)}(hf:pg.fns=λf=>(fnT.find? λp=>p.1 == f).map (·.2))(h: ∀ p∈fnT,∃ st N,aN P w K mg pg p.1 p.2 st N) base: ∀ f d,pg.fns f=fv d->mH P w K mg base pg f d:=λf d e=>by
 rw[hf] at e;dsimp only at e;cases q:fnT.find? λp=>p.1 == f with
 | none=>simp_all
 | some p =>
  rw[q] at e
  cases e
  obtain⟨st,N,g⟩:=h p (Xy q)
  have:p.1=f:=by simpa using Z7 q
  rw [<- this]
  exact g.good
theorem HX{st}(T : Top P w K mg pg)(G : ∀ base f d, pg.fns f = fv d -> mH P w K mg base pg f d)(hf : pg.fns "law" = fv d)(hx : d.ps = [x])(g : aN P w K mg pg "law" d st N)(hfa : mg "law" = fv (.ref fa)) :
    ∃ fd , (∀ s v, ZL s fd ⟨[v], []⟩ [(x, v)]) /\ ∀ base , K.In base -> base.Ns Vh mg -> j4 P w K mg base uQ (k + 1) fa fd [x] (vE K pg (k + 1) "law") := by
  obtain ⟨f, fd, F, hm⟩ := g.at_;have e := hfa.symm.trans hm;cases e;refine ⟨fd, λs v => .of_eq ?_, λbase _ _ => ?_⟩
  . have := zU.args F g.bd [v] (by rw [hx]; rfl);rw [this, hx]; rfl
  . have key : ∀{args : List PV}{h h' : PH}{v : PV}, run pg (k + 1) "law" args h = .ok v h' -> args.length = d.ps.length ∧
        ((∃ w h2, d.body (run pg k) (args.map some ++ List.replicate d.nl none) h = .ok (.rt w) h2 /\ settle h w h2 = .ok v h') ∨
         (∃ e h2, d.body (run pg k) (args.map fv ++ UN d.nl UB) h = .ok (.nx e) h2 /\ settle h .non h2 = .ok v h')) := λ{args h h' v} q => by
      rw [run, hf] at q;simp only at q;split at q
      . rename_i hn;refine ⟨hn, ?_⟩;split at q
        . rename_i w h2 e; exact .inl ⟨w, h2, e, q⟩
        . rename_i e' h2 e; exact .inr ⟨e', h2, e, q⟩
        . nomatch q
        . cases q
        . nomatch q
      . simp_all
    have S := g.sc;rw [hx] at S;refine zU.Ss F S (λvs H Q E => by rintro ⟨ρ, h, args, v, h', _, r, q, _⟩ ; exact by rw [<- r.len, (key q).1, hx]) ?_;rintro fa cdv A outer s H vs Q E hr ⟨ρ, h, args, v, h', sm, r, q, post⟩;have amb : b6 (jZ uQ P w K mg base N (UI "law") (az st) fa cdv A outer s H E).sC pg k := ⟨hr, rfl, λ_ _ z => z, Cg T (G base) k, T.blt, T.con, T.xa⟩
    obtain ⟨t, qt, st'⟩ := (g.body base fa cdv A outer s H E k).h amb;refine ⟨t, qt, ?_⟩;obtain ⟨hn, q⟩ := key q;have he : L2.start N vs = vs.map fv ++ UN d.nl UB := by
      unfold L2.start;rw [g.len, <- r.len, hn, ZH]
    rw [he];rcases q with ⟨w, h2, e, q⟩ | ⟨e', h2, e, q⟩
    . exact st' ρ h H _ _ _ _ h2 sm (gP r _) e (fK sm q post)
    . exact st' ρ h H _ _ _ _ h2 sm (gP r _) e fun σ' ρ' H' g s' _ => fK sm q post .non ρ' H' g s' (by rw [rel])
end
theorem K3{K}(hl: ∀ ns:List Int,ns.length<=63->Ok (run pg k "law" [.ref 0] [.jX (ns.map PV.int)]) λv _=>v= .bl true) H a (ns:List Int) (hn:ns.length<=63) (o:BD H) (q:gB K H a (ns.map V.int)) :
  vE K pg k "law" [.ref a] H (λv _=>v= .bl true) E:=by
 obtain⟨v,h',e,rfl⟩:=hl ns hn;refine⟨[a],_,[.ref 0],_,h',⟨rfl,λi j b oi oj ei ej mi mj _ _=>?_,λi ob b ei eb=>?_⟩,aq.one (by exact⟨a,rfl,rfl⟩),e,λv' ρ' H' g s r=>by exact r⟩
 . cases i with
   | zero=>simp at ei;subst ei;cases mi
   | succ i=>simp at ei
 . cases i with
   | zero =>
    simp at ei eb
    subst ei eb
    exact⟨_,IS o q,aq.ints ns⟩
   | succ i=>simp at ei
section
variable{P:Vl}{w:VE}{K:UC}{mg:Str->Option UH}{pg:Tb}
theorem Fg{conT:List (Str × PV)}(hc:pg.con=λx=>(conT.find? λp=>decide (p.1=x)).map (·.2))(h: ∀ p∈conT,∃ u v',mg p.1=fv u/\RelV v' u/\yS K v'/\ ∀ ρ H,rel K ρ H p.2 v'): ∀ x v,pg.con x=fv v-> ∃ u v',mg x=fv u/\RelV v' u/\yS K v'/\ ∀ ρ H,rel K ρ H v v':=λx v e=>by
 rw[hc] at e;dsimp only at e;cases q:conT.find? λp=>decide (p.1=x) with
 | none=>simp_all
 | some p =>
  rw[q] at e
  cases e
  have:p.1=x:=by simpa using Z7 q
  rw[<- this]
  exact h p (Xy q)
theorem GD{dcT:List (Str × List (Key × PV))}(hc:pg.xa=λx=>(dcT.find? λp=>decide (p.1=x)).map (·.2))(h: ∀ p∈dcT,∃ a kws,mg p.1=fv (.ref a)/\KD P w K a kws/\ ∀ ρ H,RK K ρ H p.2 kws) :
  ∀ x kvs,pg.xa x=fv kvs-> ∃ a kws,mg x=fv (.ref a)/\KD P w K a kws/\ ∀ ρ H,VH (λ(p:Key × PV) (q:Key × V)=>p.1=q.1/\rel K ρ H p.2 q.2) kvs kws:=λx v e=>by
 rw[hc] at e;dsimp only at e;cases q:dcT.find? λp=>decide (p.1=x) with
 | none=>simp_all
 | some p =>
  rw[q] at e
  cases e
  have:p.1=x:=by simpa using Z7 q
  rw[<- this]
  exact h p (Xy q)
inductive CV:PV->UH->Prop where
 | int (i:Int) (t:Tok):CV (.int i) (.int i t)
 | str (x:Str) (t:Tok):CV (.str x) (.str x t)
theorem CV.v(c:CV x u): ∃ v,RelV v u/\ ∀ ρ H,rel K ρ H x v:=by
 cases c with
 | int i t=>exact⟨.int i,⟨t,rfl⟩,λ_ _=>by rw[rel]⟩
 | str z t=>exact⟨.str z,⟨t,rfl⟩,λ_ _=>by rw[rel]⟩
theorem SF.v: ∀{xs us},VH CV xs us-> ∃ vs,Vals vs us/\ ∀ ρ H,aq K ρ H xs vs
 | _,_,.nil=>⟨[],.nil,λ_ _=>bP.mpr rfl⟩
 | _,_,.cons c t=>by obtain⟨v,a,b⟩:=CV.v c;exact by obtain⟨vs,d,e⟩:=SF.v t;exact⟨v::vs,.cons a d,fun ρ H=>au.mpr ⟨v,vs,rfl,b ρ H,e ρ H⟩⟩
theorem sI(hl:K.lookup a=fv ⟨.type "tuple",d,.seq us.toArray n,sl⟩)(hz:us.length<=UK)(h:VH CV xs us) ρ H:rel K ρ H (.ktup xs) (.ref a):=by
 obtain⟨vs,r,q⟩:=SF.v (K:=K) h;exact⟨a,vs,rfl,⟨_,us.toArray,n,hl,rfl,rfl,by omega,by omega⟩,q ρ H⟩
theorem m6{x:Str}{v:PV}{u:UH}(hm:mg x=fv u)(c:CV v u): ∃ u v',mg x=fv u/\RelV v' u/\yS K v'/\ ∀ ρ H,rel K ρ H v v':=by obtain⟨v',a,b⟩:=CV.v (K:=K) c;exact⟨u,v',hm,a,(λp e=>by subst e;cases(show u=U6 p from a);cases c),b⟩
theorem sv{x:Str}{a:U0}{us:List UH}{n:Nat}{sl:Array (Option UH)}{xs:List PV}(hm:mg x=fv (.ref a))(hl:K.lookup a=fv ⟨.type "tuple",UB,.seq us.toArray n,sl⟩)(hz:us.length<=UK)(h:VH CV xs us) :
  ∃ u v',mg x=fv u/\RelV v' u/\yS K v'/\ ∀ ρ H,rel K ρ H (.ktup xs) v':=⟨_,.ref a,hm,rfl,λp e=>by cases e;exact⟨_,hl,rfl,rfl⟩,sI hl hz h⟩
def DV(K:UC) x (u:UH):= ∃ v,RelV v u/\ ∀ ρ H,rel K ρ H x v
theorem iH(c:CV x u):DV K x u:=CV.v c
theorem dR(hl:K.lookup a=fv ⟨.type "tuple",d,.seq us.toArray n,sl⟩)(hz:us.length<=UK)(h:VH CV xs us):DV K (.ktup xs) (.ref a):=⟨.ref a,rfl,sI hl hz h⟩
theorem Eo(h:VH (λ(p) (l:Str × Tok × UH)=>p.1= .inr l.1/\DV K p.2 l.2.2) kvs ls): ∃ kws,KV kws (ls.map λp=>((VY p.1),p.2.2))/\ ∀ ρ H,RK K ρ H kvs kws:=by
 induction h with
 | nil=>exact⟨[],.nil,λ_ _=> .nil⟩
 | @cons p l ps qs a t ih =>
  obtain⟨kws,r,q⟩:=ih
  obtain⟨e,v,r1,r2⟩:=a
  exact⟨(.inr l.1,v)::kws,.cons ⟨rfl,r1⟩ r,fun ρ H=> .cons ⟨e,r2 ρ H⟩ (q ρ H)⟩
theorem vN{x:Str}{a:U0}{ls:List (Str × Tok × UH)}{kvs:List (Key × PV)}{ep:Nat}(hm:mg x=fv (.ref a))(hl:K.lookup a=fv { cls:= .type "dict",data:= .dict (ls.map (NN w)).toArray ep})(ha:(a == VP)=false)(hn:(ls.map λp=>(VY p.1:Key)).Nodup)
  (h:VH (λ(p:Key × PV) (l:Str × Tok × UH)=>p.1= .inr l.1/\DV K p.2 l.2.2) kvs ls): ∃ a kws,mg x=fv (.ref a)/\KD P w K a kws/\ ∀ ρ H,RK K ρ H kvs kws:=by
 obtain⟨kws,r,q⟩:=Eo h;exact⟨a,kws,hm,O4 hl ha hn r,q⟩
end
abbrev IT(aj:List UH)(n:Nat)(dd:Option U0)(sl:Array (Option UH)):Obj:={ cls:= .type "tuple",dict:=dd,data:= .seq aj.toArray n,slots:=sl}
theorem wD(h1: -(2 ^ 63)<=k)(h2:k < 2 ^ 63): ¬ (decide (k < -(2 ^ 63))||decide (k ≥ 2 ^ 63))=true:=by
 simp_all
theorem vW l aj n k u dd sl (h1: -(2 ^ 63)<=k) (h2:k < 2 ^ 63) (hs:(aj.toArray.isEmpty||k == 1)=true) :
  abG (XT.«tuple.__mul__» ⟨[.ref l,.int k u],[]⟩) (λ_ R s=>s.heap.get? l=fv (IT aj n dd sl)/\R (.ok (.ret (.ref l))) s) :=
 .of_wp λprog w A R s h=>by
  obtain⟨hl,h⟩:=h;refine V9 (λz=>absurd z (wD h1 h2)) (λ_=>?_)
  wp_walk using VL hl,Xn hl
  refine V9 (λ_=>?_) (λz=>absurd hs z)
  wp_walk using VL hl,Xn hl
  exact⟨_,rfl,h⟩
theorem vD l aj n k u dd sl (h1: -(2 ^ 63)<=k) (h2:k<=0) (hs: ¬ (aj.toArray.isEmpty||k == 1)=true) :
  abG (XT.«tuple.__mul__» ⟨[.ref l,.int k u],[]⟩) (λ_ R s=>s.heap.get? l=fv (IT aj n dd sl)/\R (.ok (.ret (.ref s.heap.objs.size))) { s with heap:=s.heap.push { cls:= .type "tuple",data:= .seq #[]}}) :=
 .of_wp λprog w A R s h=>by
  obtain⟨hl,h⟩:=h;have hz:(decide (k<=0)||aj.toArray.isEmpty)=true:=by simp[h2]
  refine V9 (λz=>absurd z (wD h1 (by omega))) (λ_=>?_)
  wp_walk using VL hl,Xn hl
  refine V9 (λz=>absurd z hs) (λ_=>?_);refine V9 (λ_=>?_) (λz=>absurd hz z);exact UA (m:=V3 _) (V0 (UO ⟨_,rfl,h⟩) (by size_fits))
theorem vP l aj n (k:Int) u dd sl (h1:0 < k) (h2:(aj.length)*k<=100000) (hk:k<=100000) (hs: ¬ (aj.toArray.isEmpty||k == 1)=true) :
  abG (XT.«tuple.__mul__» ⟨[.ref l,.int k u],[]⟩) (λ_ R s=>s.heap.get? l=fv (IT aj n dd sl)/\R (.ok (.ret (.ref s.heap.objs.size))) { s with heap:=s.heap.push { cls:= .type "tuple",data:= .seq (UN k.toNat aj).flatten.toArray}}) :=
 .of_wp λprog w A R s h=>by
  obtain⟨hp,g,d,tk,os⟩:=s;obtain⟨hl,h⟩:=h;have f1:=AutoSeq1.idx_int;have hz: ¬ (decide (k<=0)||aj.toArray.isEmpty)=true:=by
   simp_all
  have hc1: ¬ ((aj.toArray.size)*k > (2 ^ 63 - 1) / 8):=by rw[Vb];omega
  have hc2: ¬ (Y0 ((aj.toArray.size)*k)=true):=by
   unfold Y0;rw[Vb,decide_eq_true_eq,show((UK))=16777216 from by decide];omega
  have e0:abW (λx1 x2=>x1++x2) #[] (UN k.toNat aj.toArray)=(UN k.toNat aj).flatten.toArray:=by
   have:=foldl_rep aj k.toNat [];rw[VJ] at this;exact this
  wp_walk using VL hl,Xn hl
  refine V9 (λz=>absurd z (wD (by omega) (by omega))) (λ_=>?_)
  wp_walk using VL hl,Xn hl
  refine V9 (λz=>absurd z hs) (λ_=>?_);refine V9 (λz=>absurd z hz) (λ_=>?_);refine V9 (λhab=>absurd hab hc1) (λ_=>?_);refine V9 (λhab=>absurd hab hc2) (λ_=>?_);refine UA (m:=V3 _) (V0 (UO ⟨_,rfl,?_⟩) ?_)
  . rw[e0];exact h
  . rw[e0];show(UN k.toNat aj).flatten.toArray.size<=UK;rw[Vb,len_rep,aa8];refine Va (show aj.length*k.toNat<=100000 from ?_) (by decide);have e1:((aj.length*k.toNat:Nat))=(aj.length)*k:=by rw[Int.natCast_mul,aaK (by omega)]
    omega
def Ie(K:UC):R2:=λx y H Q=> ∃ a k xs,x= .ref a/\y= .int k/\dQ K H a xs/\(xs.length)*k<=100000/\ -100000<=k/\k<=100000/\(xs=[]\/k=1->Q (.ref a) H)/\(¬ (xs=[]\/k=1)-> ∀ p,H p=UB->Q (.ref p) (upd H p (.tup (UN k.toNat xs).flatten)))
theorem A4:cC X (VX .Mult) (Ie X.K):=by
 intro pins s σ H x y v u Q I rx ry h;obtain⟨a,k,xs,rfl,rfl,ha,hl,k1,k2,q1,q2⟩:=h;cases(show v=U6 a from rx);obtain⟨t,rfl⟩:=ry;obtain⟨aj,r1,p1,_⟩:=I.tuple ha;obtain⟨⟨cls,dd,data,sl⟩,ho,hc,n,hd⟩:=id p1;simp only at hc hd;subst hc hd;have hlen:=r1.length;refine Y4 (T:= "tuple") (U:= "int") (by decide) ⟨_,ho,rfl⟩ (λs'=>ZQ s' k t) k0 PySem.F.fills_int_mul aae qM PySem.F.slot_int_index.lookup
  (WA aae (ZQ s k t) PySem.F.entry_int_rmul (PySem.F.args_int_rmul_2 _ _) (nB k t a aj.toArray n dd sl) ⟨ho,rfl,⟨_,ho,rfl⟩,?_⟩)
 have hx:=(r1.mB).symm;by_cases hs:xs=[]\/k=1
 . have hb:(aj.toArray.isEmpty||k == 1)=true:=by
    simp_all
   exact WA WE ⟨_,ho,rfl⟩ X4 (XN _ _) (vW a aj n k t dd sl (by omega) (by omega) hb) ⟨ho,⟨.ref a,H,I,rfl,q1 hs⟩⟩
 . have hb: ¬ (aj.toArray.isEmpty||k == 1)=true:=λz=>hs (by
    rw[Yx] at z;rcases z with z | z
    . exact .inl (hx.mpr (by simpa using z))
    . exact .inr (by simpa using z))
   by_cases hk:0 < k
   . refine WA WE ⟨_,ho,rfl⟩ X4 (XN _ _) (vP a aj n k t dd sl hk (by rw[<- hlen];exact hl) k2 hb) ⟨ho,?_⟩;refine⟨.ref s.heap.objs.size,_,I.laid (t':=s.toks) (o:= .tup (UN k.toNat xs).flatten) (λb ob q=>UD _ q) (UL _) ?_,rfl,q2 hs _ (I.bb.fresh (UL _))⟩;refine⟨?_,_,r1.rep k.toNat,oQ.new _ _⟩;rw[len_rep,aa8];refine Va (show xs.length*k.toNat<=100000 from ?_) (by decide);have e1:((xs.length*k.toNat:Nat))=(xs.length)*k:=by grind
     omega
   . refine WA WE ⟨_,ho,rfl⟩ X4 (XN _ _) (vD a aj n k t dd sl (by omega) (by omega) hb) ⟨ho,?_⟩;refine⟨.ref s.heap.objs.size,_,I.laid (t':=s.toks) (o:= .tup (UN k.toNat xs).flatten) (λb ob q=>UD _ q) (UL _) ?_,rfl,q2 hs _ (I.bb.fresh (UL _))⟩;have:k.toNat=0:=by omega
     rw[this];exact⟨Vw _,[],.nil,oQ.new _ _⟩
section
variable{X:Cx}{pg:Tb}{k:Nat}
theorem aq.rep{K}(r:aq K ρ H xs vs): ∀ n,aq K ρ H (UN n xs).flatten (UN n vs).flatten
 | 0=>bP.mpr rfl
 | n+1=>by exact r.app (r.rep n)
def cb:PV->PV->PH->RV PV:=λx y h=>match x,y with
 | .int i,.int j=>if (-(2 ^ 64) < i/\i < 2 ^ 64)\/(-(2 ^ 64) < j/\j < 2 ^ 64) then .ok (.int (i*j)) h else .no
 | .tup xs,.int k=>if (xs.length)*k<=100000/\ -100000<=k/\k<=100000 then .ok (.tup (UN k.toNat xs).flatten) h else .no
 | .ref n,.int k=>(match h[n]? with
  | some (.lst xs)=>if (-(2 ^ 63)<=k/\k < 2 ^ 63)/\xs.length*k.toNat<=UK then .ok (.ref h.length) (h++[.lst (UN k.toNat xs).flatten]) else .no
  | _=> .no)
 | _,_=> .no
theorem Mw:b6 X pg k-> ∃ r,cC X (VX .Mult) r/\lW X.K r cb:=λ_=>⟨_,LS.or (A4.or Ma),fun ρ h H x y x' y' Q v h' s rx ry q P=>by
 unfold cb at q;split at q
 . split at q
   . rename_i hc;cases q;exact .inl ⟨_,_,rx,ry,hc,P _ ρ H (.refl _ _) s (by rw[rel])⟩
   . nomatch q
 . rename_i xs k;split at q
   . rename_i hc;cases q;have rx':=rx;obtain⟨a,us,rfl,e2,e3⟩:=rx;refine .inr (.inl ⟨a,k,us,rfl,ry,.of e2,by rw[<- e3.len];exact hc.1,hc.2.1,hc.2.2,λz=>?_,λz p hp=>mh s (e3.rep _) P p hp⟩);have:(UN k.toNat xs).flatten=xs:=by
      rcases z with z | z
      . subst z;have:=Yr e3.len;subst this;simp
      . rw[z];simp[UN]
     rw[this] at P;exact P _ ρ H (.refl _ _) s rx'
   . nomatch q
 . split at q
   . rename_i xs en;split at q
     . rename_i hc;cases q;obtain⟨a,us,rfl,_,e1,e2⟩:=s.lst en rx;exact .inr (.inr ⟨a,_,us,rfl,ry,e1,hc.1.1,hc.1.2,by rw[<- e2.len];exact hc.2,λp hp=>cX s (e2.rep _) P p hp⟩)
     . nomatch q
   . nomatch q
 . nomatch q⟩
end
section
variable{prog:Vl}{w:VE}{A:Wf}{E:UH->UM->Prop}{s:UM}
theorem tY{t:U0}{us:List UH}{R:List UH->UM->Prop}(ht:s.heap.IsTuple t us.toArray)(fits:us.length<=UK)
  (q:R us { s with heap:=(s.heap.push (Xz "list" #[] 0)).update s.heap.objs.size (WV (· ++us.toArray))}):U2 (U8 prog w) A (collect (.ref t)) R E s:=by
 obtain⟨ob,e1,e2,m,e3⟩:=id ht;have e1':=UD (Xz "list" #[] 0) e1;have own:(s.heap.push (Xz "list" #[] 0)).get? s.heap.objs.size=fv (Xz "list" #[] 0):=UY _ rfl;have sum:(#[])++us.toArray=us.toArray:=by simp
 refine UA (wpAny_runValue (Yy entry_proto_collect' (show U2 _ _ (newList [] >>= λl=>again (.builtin "list.__iadd__" ⟨[l,.ref t],[]⟩)) _ _ s from ?_)));refine UA (Yk (UO ⟨Code.quiet_builtin _ (by decide +kernel),Yy entry_list_iadd' (show U2 _ _ (Builtin.List.listExtendWith _ (.ref t) _) _ _ { s with heap:=s.heap.push (Xz "list" #[] 0)} from ?_)⟩));refine UA (Xr (T:= "tuple") ⟨ob,e1',e2⟩ (QH (by simp) (UA (abg e1' e3 (UA (abg own rfl ?_))))));refine RO (by simp) (UA (Zq own rfl (UO ?_) (Vw _) (by grind)));refine UA (Xn (get?_update_seq own _) ?_);show U2 _ _ (pure ((#[])++us.toArray).toList) R E _;rw[sum];exact UO q
theorem lT{t:U0}{us:List UH}{ss:List Str}{R:UH->UM->Prop}(ht:s.heap.IsTuple t us.toArray)(hS:YG us ss)(n64:us.length < 64)
  (q: ∀(out:Array UH)(ss':List Str),YG out.toList ss'->ss'.Perm ss->Ze ss'=true->R (.ref (s.heap.objs.size+1)) { s with heap:=abv s.heap us out}):U2 (U8 prog w) A (call (.builtin "sorted") [.ref t]) R E s:=by
 refine Xv abF aba abb (abc (.ref t)) ?_;refine UA (m:=checkCount "sorted" 1 1 [U6 t].length) (UO (UA (tY ht (L2.kC n64) (UA (Yk ?_ (L2.kC n64))))));show U2 _ _ _ _ _ { s with heap:=jO s.heap us};rw[d8];exact UA (Wg (kh (iD s.heap us) hS n64 λout ss' a1 a2 a3=>UO ⟨_,rfl,q out ss' a1 a2 a3⟩))
end
section
variable{X:Cx}{pg:Tb}{k:Nat}
def FO(K:UC):List V->Hp->VK->Prop:=λxs H Q=> ∃ p ss,xs=[.ref p]/\dQ K H p (ss.map V.str)/\ss.length < 64/\ ∀ l ss',H l=UB->ss'.Perm ss->Ze ss'=true->Q (.ref l) (upd H l (.lst (ss'.map V.str)))
theorem t8:aM X (.builtin "sorted") (FO X.K):=by
 rintro pins s σ H xs us Q I r ⟨p,ss,e,hS,h64,q⟩;subst e;obtain⟨u,rfl,ru⟩:=vals1 r;cases(show u=U6 p from ru);obtain⟨aj,hv,hl,hz⟩:=I.tuple hS;have sa:=gE hv;refine lT hl sa (by rw[sa.length];exact h64) λout ss' a1 a2 a3=>?_;obtain⟨e,he⟩:=abd s.heap aj out;have hlen:(ss'.map V.str).length<=UK:=by rw[UE,a2.length_eq];exact WO (US h64 (by decide))
 obtain⟨hn,I'⟩:=I.kW (a:=s.heap.objs.size+1) (o:= .lst (ss'.map V.str)) (t':=s.toks) (λb o e=>aaP e) (Wv (aan _)) ⟨hlen,out.toList,e,iR a1,by omega⟩;exact⟨.ref _,_,I',rfl,q _ ss' hn a2 a3⟩
def dG:List PV->PH->RV PV:=λxs h=>match xs with
 | [.tup ys]=>(match cz ys with
  | some ss=>if ss.length < 64 then .ok (.ref h.length) (h++[.lst ((dJ ss).map PV.str)]) else .no
  | none=> .no)
 | _=>kr xs h
theorem yC:b6 X pg k-> ∃ r,aM X (.builtin "sorted") r/\xH X.K r dG:=λA=>⟨_,t8.or (sO A.calm),fun ρ h H xs us Q v h' s r q P=>by
 unfold dG at q;split at q
 . split at q
   . rename_i ss es;split at q
     . rename_i hl;cases q;obtain⟨u,rfl,r1⟩:=aT r;obtain⟨a,vs,rfl,e1,e2⟩:=r1;rw[fV es,b9] at e2;subst e2;refine .inl ⟨a,ss,rfl,.of e1,hl,λl ss' hp pm so=>?_⟩;rw[mJ pm so];exact cX s (b9.mpr rfl) P l hp
     . simp_all
   . simp_all
 . exact .inr (tM A ρ h H _ us Q v h' s r q P)⟩
end
def fin h (r:RV Fl):=match r with
 | .ok (.rt v) h'=>settle h v h'
 | .ok (.nx _) h'=>settle h .non h'
 | .ok _ _=> .no
 | .ex c us h'=> .ex c us h'
 | .no=> .no
theorem run_eq(hf:pg.fns f=fv d)(hn:vs.length=d.ps.length):run pg (k+1) f vs h=fin h (d.body (run pg k) (vs.map fv++UN d.nl UB) h):=by
 rw[run,hf];simp only[if_pos hn];rfl
theorem ck:(RV.ok a h).bind f=f a h:=(rfl)
theorem iK:fin h (.ok (.rt v) h')=settle h v h':=(rfl)
theorem FY[Decidable c]:fin h (if c then a else b)=if c then fin h a else fin h b:=by split<;>rfl
theorem lu:settle h v h= .ok v h:=by unfold settle;split<;>simp
theorem aF(hv:v.flat=true):settle h v (h++g)= .ok v h:=by unfold settle;rw[hv,jH];simp
theorem bg(hv:v.flat=false):settle h v h'= .ok v h':=by unfold settle;rw[hv];rfl
theorem vj(hv:v.flat=true)(e:h[i]?=fv o)(m:o.fB=o'.fB)(hu:o'.i6 h.length=true):settle h v (h.set i o'++g)= .ok v (h.set i o'):=by
 unfold settle;have:bK h.length h (h.set i o'++g)=true:=by
  have h1:=mY hu h (h++g) i o (jH _ h g) e m
  rwa[List.set_append_left _ _ (UJ.mp e).1] at h1
 rw[hv,this];simp[List.take_append_of_le_length]
theorem uw{h:PH}{v:PV}{i:Nat}{o o':PO}:settle h v (h.set i o')= .ok v (h.set i o'):=by
 unfold settle;split
 . rw[<- V7 (as:=h) (i:=i) (a:=o'),aby]
 . rfl
theorem kq:UI a=UI b↔a=b:=by
 refine⟨λe=>?_,λe=>by rw[e]⟩;rw[Yb,Yb] at e;have e1:a.toList.map aa2=b.toList.map aa2:=by
  have:=congrArg (λs:Str=>s.cps.toList) e;simpa using this
 have inj: ∀{l m:List Char},l.map aa2=m.map aa2->l=m:=by
  intro l
  induction l with
  | nil=>intro m h;cases m with | nil=>rfl | cons=>cases h
  | cons x r ih =>
   intro m h
   cases m with
   | nil=>cases h
   | cons y t =>
    simp only[abN,UP] at h
    have:=Char.toNat_inj.mp h.1
    rw[this,ih h.2]
 exact String.toList_inj.mp (inj e1)
section
variable{c:CF}{e e1:aZ}{h h1:PH}{a b d:ME}{t u:MT}{r:MA}{x y v:PV}{f g:PV->PV->PH->RV PV}{s s':MS}{i n:Nat}
def O0(f:PV->PV->PH->RV PV)(b:ME) c e x h1:=(b c e h1).bind λy h2=>f x y h2
theorem Qh:ao f a b c e h=(a c e h).bind (O0 f b c e):=rfl
theorem KQ:O0 f b c e x h1=(b c e h1).bind (f x):=rfl
theorem Ob{f}:u9 f a c e h=(a c e h).bind f:=rfl
noncomputable def Ki(o:Option (Option PV))(h:PH):RV PV:=match o with
 | some (fv v)=> .ok v h
 | _=> .no
theorem JJ:aa i c e h=Ki (e[i]?) h:=rfl
theorem DU:Ki (fv (fv v)) h= .ok v h:=rfl
theorem RL:eC v c e h= .ok v h:=rfl
theorem wK:sA (.bl p) h= .ok p h:=rfl
noncomputable def CD(b:ME) c e x h1:=if x=true then b c e h1 else .ok (.bl false) h1
theorem HH:yj a b c e h=((a c e h).bind sA).bind (CD b c e):=rfl
theorem DE:CD b c e true h=b c e h:=rfl
theorem EO:CD b c e false h= .ok (.bl false) h:=rfl
theorem F6[Decidable p]:CD b c e (decide p) h=if p then b c e h else .ok (.bl false) h:=by unfold CD;by_cases q:p<;>simp[q]
noncomputable def Om(b:ME) c e x h1:=if x=true then .ok (.bl true) h1 else b c e h1
theorem Pj:Nw a b c e h=((a c e h).bind sA).bind (Om b c e):=rfl
theorem MQ:Om b c e true h= .ok (.bl true) h:=rfl
theorem Lu:Om b c e false h=b c e h:=rfl
theorem HI[Decidable p]:Om b c e (decide p) h=if p then .ok (.bl true) h else b c e h:=by unfold Om;by_cases q:p<;>simp[q]
noncomputable def OT(x:Bool)(h1:PH):RV PV:= .ok (.bl (!x)) h1
theorem Lr:Fy a c e h=((a c e h).bind sA).bind OT:=rfl
theorem Fo:OT p h= .ok (.bl (!p)) h:=rfl
noncomputable def Kf(a b:ME) c e x h1:=if x=true then a c e h1 else b c e h1
theorem M7:vd t a b c e h=(t c e h).bind (Kf a b c e):=rfl
theorem IM:Kf a b c e true h=a c e h:=rfl
theorem LA:Kf a b c e false h=b c e h:=rfl
theorem K8[Decidable p]:Kf a b c e (decide p) h=if p then a c e h else b c e h:=by unfold Kf;by_cases q:p<;>simp[q]
theorem Mh[Decidable p]:Kf a b c e (!decide p) h=if p then b c e h else a c e h:=by unfold Kf;by_cases q:p<;>simp[q]
theorem wC:aA a c e h=(a c e h).bind sA:=rfl
noncomputable def oK(u:MT) c e x h1:=if x=true then u c e h1 else .ok false h1
theorem DQ:lX t u c e h=(t c e h).bind (oK u c e):=rfl
theorem Bz:oK u c e true h=u c e h:=rfl
theorem CO:oK u c e false h= .ok false h:=rfl
theorem CN[Decidable p]:oK u c e (decide p) h=if p then u c e h else .ok false h:=by unfold oK;by_cases q:p<;>simp[q]
theorem AK[Decidable p]:oK u c e (!decide p) h=if p then .ok false h else u c e h:=by unfold oK;by_cases q:p<;>simp[q]
noncomputable def vQ(u:MT) c e x h1:=if x=true then .ok true h1 else u c e h1
theorem Mu:zW t u c e h=(t c e h).bind (vQ u c e):=rfl
theorem F0:vQ u c e true h= .ok true h:=rfl
theorem FK:vQ u c e false h=u c e h:=rfl
theorem Ge[Decidable p]:vQ u c e (decide p) h=if p then .ok true h else u c e h:=by unfold vQ;by_cases q:p<;>simp[q]
theorem DM[Decidable p]:vQ u c e (!decide p) h=if p then u c e h else .ok true h:=by unfold vQ;by_cases q:p<;>simp[q]
noncomputable def Hw(x:Bool)(h1:PH):RV Bool:= .ok (!x) h1
theorem Dz:kK t c e h=(t c e h).bind Hw:=rfl
theorem AY:Hw p h= .ok (!p) h:=rfl
theorem Et:aS c e h= .ok true h:=rfl
theorem D7:ah c e h= .ok [] h:=rfl
noncomputable def Jg(x:PV)(xs:List PV)(h2:PH):RV (List PV):= .ok (x::xs) h2
def K4(r:MA) c e x h1:=(r c e h1).bind (Jg x)
theorem Cs:ab a r c e h=(a c e h).bind (K4 r c e):=rfl
theorem yB:K4 r c e x h=(r c e h).bind (Jg x):=rfl
theorem yH:Jg x xs h= .ok (x::xs) h:=rfl
theorem nH{r:RV α}(hn:n<=16777216):kC n r=r:=by exact if_pos hn
def OR(xs:List PV)(h:PH):RV PV:=kC xs.length (.ok (.tup xs) h)
theorem KH:av r c e h=(r c e h).bind OR:=rfl
theorem Ec:OR xs h=kC xs.length (.ok (.tup xs) h):=(rfl)
def OO(xs:List PV)(h:PH):RV PV:=kC xs.length (.ok (.ref h.length) (h++[.lst xs]))
theorem LN:aK r c e h=(r c e h).bind OO:=rfl
theorem EK:OO xs h=kC xs.length (.ok (.ref h.length) (h++[.lst xs])):=(rfl)
theorem DG{f}:ae f r c e h=(r c e h).bind (c f):=rfl
theorem R7{f}:eB f r c e h=(r c e h).bind f:=rfl
def EX(f:PV->List PV->PH->RV PV)(ty:PV->PH->Bool)(r:MA) c e x h1:=if ty x h1=true then(r c e h1).bind (f x) else .no
theorem vt{f}:eM f ty a r c e h=(a c e h).bind (EX f ty r c e):=rfl
def zt(g:PV->PV->PH->RV PV)(d:ME) c e y k h3:=if k=true then(d c e h3).bind (g y) else .ok (.bl false) h3
def LQ(f g:PV->PV->PH->RV PV) d c e x y h2:=((f x y h2).bind sA).bind (zt g d c e y)
def Nc(f g:PV->PV->PH->RV PV)(b d:ME) c e x h1:=(b c e h1).bind (LQ f g d c e x)
theorem Nf:rf f g a b d c e h=(a c e h).bind (Nc f g b d c e):=rfl
theorem KS:Nc f g b d c e x h=(b c e h).bind (LQ f g d c e x):=rfl
theorem JY:LQ f g d c e x y h=((f x y h).bind sA).bind (zt g d c e y):=rfl
theorem EU:zt g d c e y true h=(d c e h).bind (g y):=rfl
theorem EA:zt g d c e y false h= .ok (.bl false) h:=rfl
theorem Du[Decidable p]:zt g d c e y (decide p) h=if p then(d c e h).bind (g y) else .ok (.bl false) h:=by unfold zt;by_cases q:p<;>simp[q]
noncomputable def zS(s:MS) c (f:Fl) (h1:PH):=match f with
 | .nx e1=>s c e1 h1
 | f=> .ok f h1
theorem Ap:ag s s' c e h=(s c e h).bind (zS s' c):=rfl
theorem xp:zS s c (.nx e) h=s c e h:=(rfl)
theorem GL:zS s c (.rt v) h= .ok (.rt v) h:=rfl
theorem FI:zS s c (.bk e) h= .ok (.bk e) h:=rfl
theorem Fw:zS s c (.ct e) h= .ok (.ct e) h:=rfl
theorem G2:bF c e h= .ok (.nx e) h:=rfl
noncomputable def Tf(e:aZ)(_:PV)(h1:PH):RV Fl:= .ok (.nx e) h1
theorem Fu:cI a c e h=(a c e h).bind (Tf e):=rfl
theorem B0:Tf e x h= .ok (.nx e) h:=rfl
noncomputable def Pd(v:PV)(h1:PH):RV Fl:= .ok (.rt v) h1
theorem Kt:ar a c e h=(a c e h).bind Pd:=rfl
theorem Ei:Pd v h= .ok (.rt v) h:=rfl
noncomputable def vZ(s s':MS) c e x h1:=if x=true then s c e h1 else s' c e h1
theorem wL:bB t s s' c e h=(t c e h).bind (vZ s s' c e):=rfl
theorem xD:vZ s s' c e true h=s c e h:=rfl
theorem xJ:vZ s s' c e false h=s' c e h:=rfl
theorem D6[Decidable p]:vZ s s' c e (decide p) h=if p then s c e h else s' c e h:=by unfold vZ;by_cases q:p<;>simp[q]
theorem DL[Decidable p]:vZ s s' c e (!decide p) h=if p then s' c e h else s c e h:=by unfold vZ;by_cases q:p<;>simp[q]
noncomputable def Jv(e1:aZ)(h2:PH):RV Fl:= .ok (.nx e1) h2
def Kg(g:MG) e v h1:=(g v e h1).bind Jv
theorem Mo{g}:ai a g c e h=(a c e h).bind (Kg g e):=rfl
theorem GU:Kg (gN i) e v h= .ok (.nx (e.set i (fv v))) h:=rfl
theorem ER:Kg (gT n gs) e v h=(gT n gs v e h).bind Jv:=rfl
theorem LZ:Jv e h= .ok (.nx e) h:=rfl
theorem N3:gN i v e h= .ok (e.set i (fv v)) h:=rfl
theorem O7(hn:xs.length=n):gT n gs (.tup xs) e h=gs xs e h:=if_pos hn
theorem Mj:gT 2 gs (.tup [x1,x2]) e h=gs [x1,x2] e h:=rfl
theorem KR:gT 3 gs (.tup [x1,x2,x3]) e h=gs [x1,x2,x3] e h:=rfl
theorem MB:gT 4 gs (.tup [x1,x2,x3,x4]) e h=gs [x1,x2,x3,x4] e h:=rfl
theorem KO:gT 5 gs (.tup [x1,x2,x3,x4,x5]) e h=gs [x1,x2,x3,x4,x5] e h:=rfl
theorem IE:cZ [] e h= .ok e h:=rfl
theorem JQ{g r t}:aI g r (v::t) e h=(g v e h).bind (r t):=rfl
def BE(f:PV->PV->PV->PH->RV Unit)(e:aZ)(v x y:PV)(h3:PH):RV Fl:=(f x y v h3).bind λ_ h4=> .ok (.nx e) h4
def Ca(f:PV->PV->PV->PH->RV Unit)(i:ME) c e v x h2:=(i c e h2).bind (BE f e v x)
def Hq(f:PV->PV->PV->PH->RV Unit)(o i:ME) c e v h1:=(o c e h1).bind (Ca f i c e v)
theorem HM{f i}:pI f o i a c e h=(a c e h).bind (Hq f o i c e):=rfl
theorem Gs{f i}:Hq f o i c e v h=(o c e h).bind (Ca f i c e v):=rfl
theorem Gm{f i}:Ca f i c e v x h=(i c e h).bind (BE f e v x):=rfl
noncomputable def S3(e:aZ)(_:Unit)(h:PH):RV Fl:= .ok (.nx e) h
theorem Gd{f}:BE f e v x y h=(f x y v h).bind (S3 e):=rfl
theorem J9{u}:S3 e u h= .ok (.nx e) h:=rfl
def bc(g:MG)(s:MS) c x e h:=(g x e h).bind (s c)
def fork g s c e it h1:=bh it (bc g s c) it.items e h1
theorem qN{i g}:fZ i g s c e h=(i c e h).bind (fork g s c e):=(rfl)
theorem mq{g}:fork g s c e it h=bh it (bc g s c) it.items e h:=(rfl)
theorem CM{g}:bc g s c x e h=(g x e h).bind (s c):=(rfl)
theorem Ii:my a c e h=(a c e h).bind vq:=(rfl)
theorem Kr:vq (.tup xs) h= .ok ⟨UB,xs⟩ h:=(rfl)
theorem Jq:vq (.ktup xs) h= .ok ⟨UB,xs⟩ h:=(rfl)
def QJ(n:Nat)(h:PH)(o:Option PO):RV va:=match o with
 | some (.lst xs)=> .ok ⟨fv n,xs⟩ h
 | some (.jX xs)=> .ok ⟨fv n,xs⟩ h
 | _=> .no
theorem KA:vq (.ref n) h=QJ n h (h[n]?):=by
 have e:vq (.ref n) h=(match cj h n with | some xs=> .ok ⟨fv n,xs⟩ h | none=> .no):=rfl;rw[e];unfold cj QJ;generalize h[n]?=oo;cases oo with
 | none=>rfl
 | some o=>cases o<;>rfl
theorem JN:QJ n h (fv (.lst xs))= .ok ⟨fv n,xs⟩ h:=(rfl)
theorem Ky:QJ n h (fv (.jX xs))= .ok ⟨fv n,xs⟩ h:=(rfl)
def TX(vs:List PV)(h1:PH):RV va:=match vs with
 | [.int j]=>if -(2 ^ 62)<=j/\j < 2 ^ 62 then .ok ⟨UB,ak 0 j.toNat⟩ h1 else .no
 | _=> .no
theorem vR:bf r c e h=(r c e h).bind TX:=by
 rfl
theorem rT(hj: -4611686018427387904<=j/\j < 4611686018427387904):TX [.int j] h= .ok ⟨UB,ak 0 j.toNat⟩ h:=by
 exact if_pos (by omega)
noncomputable def QD(x y:PV)(h2:PH):RV va:=match x.seq?,y.seq? with
 | some xs,fv ys=> .ok ⟨UB,(xs.zip ys).map λp=> .tup [p.1,p.2]⟩ h2
 | _,_=> .no
def TQ(b:ME) c e x h1:=(b c e h1).bind (QD x)
theorem IB:Lq a b c e h=(a c e h).bind (TQ b c e):=(rfl)
theorem E8:TQ b c e x h=(b c e h).bind (QD x):=(rfl)
theorem Br:QD (.ktup xs) (.tup ys) h= .ok ⟨UB,(xs.zip ys).map λp=> .tup [p.1,p.2]⟩ h:=(rfl)
theorem BM:QD (.tup xs) (.tup ys) h= .ok ⟨UB,(xs.zip ys).map λp=> .tup [p.1,p.2]⟩ h:=(rfl)
def Qn it (step:PV->aZ->PH->RV Fl) (xs:List PV) (f:Fl) (h1:PH):=match f with
 | .nx e1=>bh it step xs e1 h1
 | .ct e1=>bh it step xs e1 h1
 | .bk e1=> .ok (.nx e1) h1
 | .rt v=> .ok (.rt v) h1
theorem eK{step}:bh ⟨UB,xs⟩ step [] e h= .ok (.nx e) h:=(rfl)
theorem dq{step}:bh ⟨UB,xs⟩ step (y::ys) e h=(step y e h).bind (Qn ⟨UB,xs⟩ step ys):=(rfl)
theorem Fd{step}(hf:it.lY h=true):bh it step [] e h= .ok (.nx e) h:=by rw[bh,if_pos hf]
theorem Gy{step}(hf:it.lY h=true):bh it step (y::ys) e h=(step y e h).bind (Qn it step ys):=by rw[bh,if_pos hf];rfl
theorem bT{step}:Qn it step xs (.nx e) h=bh it step xs e h:=(rfl)
theorem D3{step}:Qn it step xs (.rt v) h= .ok (.rt v) h:=(rfl)
noncomputable def Kl(ys:List PV)(h2:PH):RV PV:= .ok (.ref h2.length) (h2++[.lst ys])
def PK k g t a c e it h1:=(ia it (aX k g t a c e) it.items [] h1).bind Kl
theorem NJ{i g}:jf k i g t a c e h=(i c e h).bind (PK k g t a c e):=(rfl)
theorem LI{g}:PK k g t a c e it h=(ia it (aX k g t a c e) it.items [] h).bind Kl:=(rfl)
theorem Lm:Kl ys h= .ok (.ref h.length) (h++[.lst ys]):=(rfl)
noncomputable def B6(y:PV)(h4:PH):RV (Option PV):= .ok (fv y) h4
def tX(a:ME) c e2 b h3:=if b=true then(a c e2 h3).bind B6 else .ok UB h3
def Nz(t:MT) a c e2 h2:=(t c e2 h2).bind (tX a c e2)
theorem Ph{g}:aX k g t a c e x h=(g x (e++UN k UB) h).bind (Nz t a c):=(rfl)
theorem Jk:Nz t a c e h=(t c e h).bind (tX a c e):=(rfl)
theorem E9:tX a c e true h=(a c e h).bind B6:=(rfl)
theorem FD:tX a c e false h= .ok UB h:=(rfl)
theorem Dy[Decidable p]:tX a c e (decide p) h=if p then(a c e h).bind B6 else .ok UB h:=by unfold tX;by_cases q:p<;>simp[q]
theorem E3[Decidable p]:tX a c e (!decide p) h=if p then .ok UB h else(a c e h).bind B6:=by unfold tX;by_cases q:p<;>simp[q]
theorem Ml:B6 y h= .ok (fv y) h:=(rfl)
theorem dC{α :Type}{it:va}(hf:it.lY h=true){step:PV->PH->RV (Option PV)}{f: α ->Option PV}{g: α ->PV}: ∀(l:List α)(ys:List PV),(∀ x∈l,step (g x) h= .ok (f x) h)->l.length+ys.length<=16777216->ia it step (l.map g) ys h= .ok (ys++l.filterMap f) h
 | [],ys,_,_=>by rw[VU,ia,if_pos hf];simp
 | x::xs,ys,hs,hl=>by
  have hl':ys.length < UK:=by rw[UU] at hl;show ys.length < 16777216;omega
  rw[UP,ia,if_pos ⟨hf,hl'⟩,hs x UX];cases q:f x with
  | none=>exact(dC hf xs ys (λy m=>hs y (UZ _ m)) (by grind)).trans (by rw[WY q])
  | some y=>exact(dC hf xs (ys++[y]) (λz m=>hs z (UZ _ m)) (by rw[UU] at hl;simp;omega)).trans (by rw[WZ q];simp)
end
section
variable{h:PH}{i j:Int}{a b:Str}{x y z w u v:PV}{r xs ys:List PV}{p q:Bool}{n m:Nat}
theorem F7:w6 (.int i) (.int j) h= .ok (.int (i - j)) h:=(rfl)
theorem Eh:aL (.int i) (.int j) h= .ok (.int (i+j)) h:=(rfl)
theorem jS(hl:a.length+b.length<=16777216):aL (.str a) (.str b) h= .ok (.str (a++b)) h:=nH hl
theorem mF(hl:xs.length+ys.length<=16777216):aL (.tup xs) (.tup ys) h= .ok (.tup (xs++ys)) h:=nH hl
theorem rR(e1:h[n]?=fv (.lst xs))(e2:h[m]?=fv (.lst ys))(hl:xs.length+ys.length<=16777216):aL (.ref n) (.ref m) h= .ok (.ref h.length) (h++[.lst (xs++ys)]):=by
 unfold aL;simp only[e1,e2];exact nH (by simpa using hl)
theorem EY(hj:0 < j):gz (.int i) (.int j) h= .ok (.int (i % j)) h:=by unfold gz p2;simp[hj,FP,qJ]
theorem Ft(hj:0<=j/\j<=1000000/\i.natAbs < 18446744073709551616):Dc (.int i) (.int j) h= .ok (.int (i ^ j.toNat)) h:=by
 unfold Dc p2;simp only;rw[if_pos (by omega)];rfl
theorem rM(hi: -18446744073709551616 < i/\i < 18446744073709551616):cb (.int i) (.int j) h= .ok (.int (i*j)) h:=if_pos (.inl (by omega))
theorem qC(hj: -18446744073709551616 < j/\j < 18446744073709551616):cb (.int i) (.int j) h= .ok (.int (i*j)) h:=if_pos (.inr (by omega))
theorem Kk:vc (.int i) (.int j) h= .ok (.bl (decide (i < j))) h:=(rfl)
theorem J0:QY (.int i) (.int j) h= .ok (.bl (decide (i<=j))) h:=(rfl)
theorem Jz:L8 (.int i) (.int j) h= .ok (.bl (decide (j < i))) h:=(rfl)
theorem GB:ja (.str a) (.str b) h= .ok (.bl (decide (a=b))) h:=by simp[ja,alike,jV]
theorem EE:ja (.int i) (.int j) h= .ok (.bl (decide (i=j))) h:=by simp[ja,alike,jV]
theorem DP:g7 (.str a) (.str b) h= .ok (.bl (!decide (a=b))) h:=by simp[g7,alike,jV,fC]
theorem DA:g7 (.int i) (.int j) h= .ok (.bl (!decide (i=j))) h:=by simp[g7,alike,jV,fC]
theorem qI:aG (.tup (x::r)) (.int 0) h= .ok x h:=by
 simp only[aG,cR,o7];rw[if_pos (by decide),if_pos (by simp_all)];rfl
theorem vn:aG (.tup (x::y::r)) (.int 1) h= .ok y h:=by
 simp only[aG,cR,o7];rw[if_pos (by decide),if_pos (by simp only[UU];omega)];rfl
theorem DZ:aG (.tup (x::y::z::r)) (.int 2) h= .ok z h:=by
 simp only[aG,cR,o7];rw[if_pos (by decide),if_pos (by simp only[UU];omega)];rfl
theorem Gh:aG (.tup (x::y::z::w::r)) (.int 3) h= .ok w h:=by
 simp only[aG,cR,o7];rw[if_pos (by decide),if_pos (by simp only[UU];omega)];rfl
theorem A8:aG (.tup (x::y::z::w::u::r)) (.int 4) h= .ok u h:=by
 simp only[aG,cR,o7];rw[if_pos (by decide),if_pos (by simp only[UU];omega)];rfl
theorem Lw:aG (.tup (x::y::z::w::u::v::r)) (.int 5) h= .ok v h:=by
 simp only[aG,cR,o7];rw[if_pos (by decide),if_pos (by simp only[UU];omega)];rfl
theorem k4(e:cR xs i=fv v):aG (.tup xs) (.int i) h= .ok v h:=by simp only[aG,e]
theorem c9{xs}(e:i=(n)){v: α}(q:xs[n]?=fv v):cR xs i=fv v:=by
 have hl:=(UJ.mp q).1;subst e;unfold cR o7;rw[if_pos (by omega),if_pos (by omega)];simpa using q
def M3(y:PV)(h:PH)(o:Option PO):RV PV:=match o with
 | some (.dct kvs)=>(match gY y with
  | some k=>(match cv kvs k with | some v=> .ok v h | none=> .no)
  | none=> .no)
 | some (.lst xs)=>(match y with
  | .int i=>(match cR xs i with | some v=> .ok v h | none=> .no)
  | _=> .no)
 | some (.jX xs)=>(match y with
  | .int i=>(match cR xs i with | some v=> .ok v h | none=> .no)
  | _=> .no)
 | none=> .no
theorem Fe:aG (.ref n) y h=M3 y h (h[n]?):=by
 rfl
noncomputable def P9(h:PH)(o:Option PV):RV PV:=match o with
 | some v=> .ok v h
 | none=> .no
theorem R0:M3 (.str a) h (fv (.dct kvs))=P9 h (cv kvs (.inr a)):=(rfl)
theorem L1:M3 (.int i) h (fv (.lst xs))=P9 h (cR xs i):=(rfl)
theorem PY:M3 (.int i) h (fv (.jX xs))=P9 h (cR xs i):=(rfl)
theorem GG:P9 h (fv v)= .ok v h:=(rfl)
theorem gx:cv ((k,v)::kvs) k=fv v:=by simp[cv]
theorem bW(ne:k'≠k):cv ((k',v)::kvs) k=cv kvs k:=by simp[cv,ne]
theorem key_ne{a b:String}:((VY (UI a):Key)=VY (UI b))=(a=b):=by simp[kq]
def A5(n:Nat)(y v:PV)(h:PH)(o:Option PO):RV Unit:=match o with
 | some (.dct kvs)=>(match gY y with
  | some k=>if kvs.length < UK then .ok () (h.set n (.dct (mT kvs k v))) else .no
  | none=> .no)
 | some (.lst xs)=>(match y with
  | .int i=>(match o7 xs.length i with | some j=> .ok () (h.set n (.lst (xs.set j v))) | none=> .no)
  | _=> .no)
 | _=> .no
theorem P7:mS (.ref n) y v h=A5 n y v h (h[n]?):=by
 rfl
theorem Pf(hl:kvs.length < 16777216):A5 n (.str a) v h (fv (.dct kvs))= .ok () (h.set n (.dct (mT kvs (.inr a) v))):=if_pos hl
def Tz(n:Nat)(v:PV)(h:PH)(o:Option PO):RV PV:=match o with
 | some (.lst xs)=>if xs.length < UK then .ok .non (h.set n (.lst (xs++[v]))) else .no
 | _=> .no
theorem Ru:bw (.ref n) [v] h=Tz n v h (h[n]?):=by
 rfl
theorem uO(hl:xs.length < 16777216):Tz n v h (fv (.lst xs))= .ok .non (h.set n (.lst (xs++[v]))):=if_pos hl
theorem len_T:bH [.tup xs] h= .ok (.int xs.length) h:=(rfl)
theorem PL(e:h[n]?=fv (.jX xs)):bH [.ref n] h= .ok (.int xs.length) h:=by simp[bH,itemsOf,cj,e]
theorem Kd:xA [.tup xs] h= .ok (.ref h.length) (h++[.lst xs]):=(rfl)
theorem Of:uB [.bl p] h= .ok (.int (if p then 1 else 0)) h:=(rfl)
theorem Nn:fz false .non h= .ok (.bl true) h:=(rfl)
theorem Ox:fz false (.int i) h= .ok (.bl false) h:=by simp[fz]
theorem NU:fz false (.tup xs) h= .ok (.bl false) h:=by simp[fz]
theorem La:fz true .non h= .ok (.bl false) h:=(rfl)
section
variable{c:CF}{e:aZ}{d k1 k2:ME}{rr:MA}{kvs:List (Key × PV)}{ff:PV->List PV->PH->RV PV}
def SR(a:Str)(z:PV)(h:PH)(o:Option PO):RV PV:=match o with
 | some (.dct kvs)=> .ok ((cv kvs (.inr a)).getD z) h
 | _=> .no
def RB(x y z:PV)(h3:PH):RV PV:=match x,gY y with
 | .ref n,fv key=>(match h3[n]? with
  | some (.dct kvs)=> .ok ((cv kvs key).getD z) h3
  | _=> .no)
 | _,_=> .no
def Ql(b:ME) c e x y h2:=(b c e h2).bind (RB x y)
def Rp(a b:ME) c e x h1:=if fC h1 x=true then(a c e h1).bind (Ql b c e x) else .no
def Ri(a b:ME) c e n h (o:Option PO):=match o with
 | some (.dct _)=>(a c e h).bind (Ql b c e (.ref n))
 | _=> .no
theorem IY:Bt d k1 k2 c e h=(d c e h).bind (Rp k1 k2 c e):=(rfl)
theorem DI:Rp k1 k2 c e (.ref n) h=Ri k1 k2 c e n h (h[n]?):=by
 unfold Rp Ri fC;cases q:h[n]? with
 | none=>simp[q]
 | some o=>cases o<;>simp[q]
theorem CQ:Ri k1 k2 c e n h (fv (.dct kvs))=(k1 c e h).bind (Ql k2 c e (.ref n)):=(rfl)
theorem FJ:Ql k2 c e x y h=(k2 c e h).bind (RB x y):=(rfl)
theorem GS:RB (.ref n) (.str a) z h=SR a z h (h[n]?):=by
 rfl
theorem BC:SR a z h (fv (.dct kvs))= .ok ((cv kvs (.inr a)).getD z) h:=(rfl)
def RW(f:PV->List PV->PH->RV PV)(r:MA) c e n h (o:Option PO):=match o with
 | some (.lst _)=>(r c e h).bind (f (.ref n))
 | _=> .no
theorem Oa:EX ff bM rr c e (.ref n) h=RW ff rr c e n h (h[n]?):=by
 unfold EX RW bM;cases q:h[n]? with
 | none=>simp[q]
 | some o=>cases o<;>simp[q]
theorem HF:RW ff rr c e n h (fv (.lst xs))=(rr c e h).bind (ff (.ref n)):=(rfl)
def M6(ys:List PV)(h:PH)(o:Option (List (Key × PV))):RV PV:=match o with
 | some kvs=>if ys.length < UK then .ok (.ref h.length) (h++[.dct (cH [] kvs)]) else .no
 | none=> .no
theorem K2:xE [.tup ys] h=M6 ys h (jF ys):=by
 rfl
theorem JZ(hl:ys.length < 16777216):M6 ys h (fv kvs)= .ok (.ref h.length) (h++[.dct (cH [] kvs)]):=if_pos hl
end
noncomputable def Sl(h:PH)(o:Option PO):RV PV:=match o with
 | some (.lst xs)=> .ok (.tup xs) h
 | some (.jX xs)=> .ok (.tup xs) h
 | _=> .no
theorem Gb:aY [.ref n] h=Sl h (h[n]?):=by
 unfold Sl;cases q:h[n]? with
 | none=>simp[aY,cj,q]
 | some o=>cases o<;>simp[aY,cj,q]
theorem Ai:Sl h (fv (.lst xs))= .ok (.tup xs) h:=(rfl)
noncomputable def Rm(h:PH)(o:Option PO):RV PV:=match o with
 | some (.lst xs)=> .ok (.int xs.length) h
 | some (.jX xs)=> .ok (.int xs.length) h
 | some (.dct kvs)=> .ok (.int kvs.length) h
 | _=> .no
theorem N0:bH [.ref n] h=Rm h (h[n]?):=by
 unfold Rm;cases q:h[n]? with
 | none=>simp[bH,itemsOf,cj,q]
 | some o=>cases o<;>simp[bH,itemsOf,cj,q]
theorem KY:Rm h (fv (.lst xs))= .ok (.int xs.length) h:=(rfl)
theorem g9{a:Str}: ∀{ss:List Str},((ss.map PV.str).any λz=>MZ z (.str a))=decide (a∈ss)
 | []=>by simp
 | x::t=>by
  rw[UP,WG,g9];by_cases e:x=a
  . subst e;simp[show MZ (.str x) (.str x)=(x == x) from rfl]
  . have e': ¬ a=x:=λz=>e z.symm;simp[show MZ (.str x) (.str a)=(x == a) from rfl,e,e']
theorem all_strs: ∀{ss:List Str},((ss.map PV.str).all eT)=true
 | []=>rfl
 | x::t=>by rw[UP,XI,all_strs];rfl
theorem Jp{ss:List Str}:j8 (.str a) (.tup (ss.map PV.str)) h= .ok (.bl (decide (a∈ss))) h:=by
 have:isIn (.str a) (.tup (ss.map PV.str)) h=fv (decide (a∈ss)):=by
  unfold isIn;simp only[itemsOf,all_strs,eT,XJ,if_true,g9]
 unfold j8;rw[this]
theorem ET{ss:List Str}:og (.str a) (.tup (ss.map PV.str)) h= .ok (.bl (!decide (a∈ss))) h:=by
 have:isIn (.str a) (.tup (ss.map PV.str)) h=fv (decide (a∈ss)):=by
  unfold isIn;simp only[itemsOf,all_strs,eT,XJ,if_true,g9]
 unfold og;rw[this]
theorem in_K{ss:List Str}:j8 (.str a) (.ktup (ss.map PV.str)) h= .ok (.bl (decide (a∈ss))) h:=by
 have:isIn (.str a) (.ktup (ss.map PV.str)) h=fv (decide (a∈ss)):=by
  unfold isIn;simp only[itemsOf,all_strs,eT,XJ,if_true,g9]
 unfold j8;rw[this]
section
variable{c:CF}{e:aZ}{d:ME}{kvs:List (Key × PV)}
def Uc(kvs:List (Key × PV))(x:PV)(h:PH):RV PV:=match gY x with
 | some key=>(match cv kvs key with
  | some v=> .ok v h
  | none=> .no)
 | none=> .no
theorem NO:qa kvs d c e h=(d c e h).bind (Uc kvs):=(rfl)
theorem MH:Uc kvs (.str a) h=P9 h (cv kvs (.inr a)):=(rfl)
end
section
variable{c:CF}{e:aZ}{d:ME}{l uu:MO}
def LX(uu:MO) c e x (lo:Option Int) h:=(uu c e h).bind (E5 x lo)
def Qj(l uu:MO) c e x h:=(l c e h).bind (LX uu c e x)
theorem Qd:ph d l uu c e h=(d c e h).bind (Qj l uu c e):=(rfl)
theorem Kn:Qj l uu c e x h=(l c e h).bind (LX uu c e x):=(rfl)
theorem Ks{lo}:LX uu c e x lo h=(uu c e h).bind (E5 x lo):=(rfl)
theorem P5:de c e h= .ok UB h:=(rfl)
noncomputable def TN(v:PV)(h1:PH):RV (Option Int):=match v with
 | .int i=> .ok (fv i) h1
 | _=> .no
theorem NR:bS d c e h=(d c e h).bind TN:=(rfl)
theorem J7:TN (.int i) h= .ok (fv i) h:=(rfl)
theorem Pw{lo}:E5 (.tup xs) lo hi h= .ok (.tup (eW xs lo hi)) h:=(rfl)
def Rx(lo hi:Option Int)(h:PH)(o:Option PO):RV PV:=match o with
 | some (.lst xs)=> .ok (.ref h.length) (h++[.lst (eW xs lo hi)])
 | some (.jX xs)=> .ok (.ref h.length) (h++[.lst (eW xs lo hi)])
 | _=> .no
theorem Q5{lo}:E5 (.ref n) lo hi h=Rx lo hi h (h[n]?):=by
 unfold Rx;cases q:h[n]? with
 | none=>simp[E5,cj,q]
 | some o=>cases o<;>simp[E5,cj,q]
theorem Qc{lo}:Rx lo hi h (fv (.lst xs))= .ok (.ref h.length) (h++[.lst (eW xs lo hi)]):=(rfl)
theorem nu{lo}(h0:0<=lo):eW xs (fv lo) UB=xs.drop lo.toNat:=by
 have e:lo=((lo.toNat)):=by omega
 unfold eW;rw[e,HT.iP,HT.kl];simp only[VD];rcases YH lo.toNat xs.length with z | z
 . grind
 . rw[Xt z,Wi z];simp
theorem nc(h0:0<=hi):eW xs UB (fv hi)=xs.take hi.toNat:=by
 have e:hi=((hi.toNat)):=by omega
 unfold eW;rw[e,HT.iP,HT.kl];simp only[VD,aar,abe];rcases YH hi.toNat xs.length with z | z
 . rw[XU z]
 . rw[Xt z,VW (UL _),VW z]
theorem F5{lo hi:Int}(h0:0<=lo)(h1:0<=hi):eW xs (fv lo) (fv hi)=(xs.take hi.toNat).drop lo.toNat:=by
 have e:lo=((lo.toNat:Nat):Int):=by omega
 have e':hi=((hi.toNat:Nat):Int):=by omega
 unfold eW;rw[e,e',HT.iP,HT.iP];simp only[VD];rw[List.drop_take];apply abh;intro j;simp only[aa1,List.getElem?_drop];by_cases z:j < min hi.toNat xs.length - min lo.toNat xs.length
 . rw[if_pos z,if_pos (by omega),XU (by omega)]
 . rw[if_neg z];split
   . symm;exact aaf (by omega)
   . rfl
end
variable{o o':PO}{g:PH}{k:Nat}
theorem bu:(h++(o::g))[h.length]?=fv o:=by rw[Vd (UL _)];simp
theorem aQ:(h++g)[h.length+k]?=g[k]?:=by rw[Vd (by omega)];congr 1;omega
theorem aP(hn:n < h.length):(h++g)[n]?=h[n]?:=Vj hn
theorem wM(hn:n < h.length):(h.set n o)[n]?=fv o:=VS hn
theorem pS:(h++g).set h.length o=h++g.set 0 o:=by simp
theorem nY:(h++g).set (h.length+k) o=h++g.set k o:=by simp_all
theorem bz(e:h[n]?=fv o):n < h.length:=(UJ.mp e).1
end
section
variable{h:PH}{i j:Int}{a b:Str}{x y z w u v:PV}{r xs ys:List PV}{p q:Bool}{n m:Nat}
theorem IP:i7 [.int i,.ty "bool"] h= .ok (.bl false) h:=(rfl)
theorem JH:i7 [.int i,.ty "int"] h= .ok (.bl true) h:=(rfl)
theorem AR:i7 [.str a,.ty "str"] h= .ok (.bl true) h:=(rfl)
theorem uX: ∀ bs:List Int,nF (bs.map PV.int)=fv bs
 | []=>rfl
 | b::r=>by rw[UP,nF,uX r];rfl
theorem Ag{bs:List Int}(e:h[n]?=fv (.lst (bs.map PV.int))):kn [.ref n] h= .ok (.int bs.sum) h:=by
 simp[kn,xj,cj,e,uX]
theorem Af:cR (x::r) 0=fv x:=by simp only[cR,o7];rw[if_pos (by decide),if_pos (by simp_all)];rfl
theorem pN:cR (x::y::r) 1=fv y:=by simp only[cR,o7];rw[if_pos (by decide),if_pos (by simp only[UU];omega)];rfl
theorem qW:cR (x::y::z::r) 2=fv z:=by simp only[cR,o7];rw[if_pos (by decide),if_pos (by simp only[UU];omega)];rfl
theorem rB:cR (x::y::z::w::r) 3=fv w:=by simp only[cR,o7];rw[if_pos (by decide),if_pos (by simp only[UU];omega)];rfl
end
section
variable{c:CF}{e:aZ}{h h1:PH}{a b:ME}{r:MP}{x y v:PV}{kvs:List (Key × PV)}{key:Key}{s:Str}{i:Int}{n:Nat}
def Qs(n:Nat)(kvs:List (Key × PV))(h1:PH):RV PV:=if h1[n]?=fv (.dct [])/\kvs.length<=15 then .ok (.ref n) (h1.set n (.dct (cH [] kvs))) else .no
noncomputable def RC(key:Key)(v:PV)(kvs:List (Key × PV))(h3:PH):RV (List (Key × PV)):= .ok ((key,v)::kvs) h3
def RY key (r:MP) c e v h2:=(r c e h2).bind (RC key v)
def Ue(b:ME)(r:MP)(c:CF)(e:aZ)(x:PV)(h1:PH):RV (List (Key × PV)):=match gY x with
 | some key=>(b c e h1).bind (RY key r c e)
 | none=> .no
theorem Ey:xR r c e h=(r c e (h++[.dct []])).bind (Qs h.length):=(rfl)
theorem Mq:EV c e h= .ok [] h:=(rfl)
theorem Mm:jh a b r c e h=(a c e h).bind (Ue b r c e):=(rfl)
theorem Dx:Ue b r c e (.str s) h=(b c e h).bind (RY (.inr s) r c e):=(rfl)
theorem Ke:RY key r c e v h=(r c e h).bind (RC key v):=(rfl)
theorem MR:RC key v kvs h= .ok ((key,v)::kvs) h:=(rfl)
theorem Kc(h1:h[n]?=fv (.dct []))(h2:kvs.length<=15):Qs n kvs h= .ok (.ref n) (h.set n (.dct (cH [] kvs))):=if_pos ⟨h1,h2⟩
theorem FW(h2:kvs.length<=15):Qs h.length kvs (h++[.dct []])= .ok (.ref h.length) (h++[.dct (cH [] kvs)]):=by
 rw[Kc bu h2,pS];rfl
end
section
variable{α :Type}{p:List α ->Prop}
theorem Uu(h:p []): ∀ us:List α,us.length=0->p us:=λus e=>by simp_all
theorem OW{n:Nat}(h: ∀ a: α,∀ us:List α,us.length=n->p (a::us)): ∀ us:List α,us.length=n+1->p us:=λus e=>by
 cases us with
 | nil=>simp at e
 | cons a r=>exact h a r (by simpa using e)
theorem TK(h: ∀ a,p [a]): ∀ us:List α,us.length=1->p us:=OW λa=>Uu (h a)
theorem Uh(h: ∀ a b,p [a,b]): ∀ us:List α,us.length=2->p us:=OW λa=>TK (h a)
theorem Ub(h: ∀ a b c,p [a,b,c]): ∀ us:List α,us.length=3->p us:=OW λa=>Uh (h a)
theorem Tt(h: ∀ a b c d,p [a,b,c,d]): ∀ us:List α,us.length=4->p us:=OW λa=>Ub (h a)
theorem Ul(h: ∀ a b c d e,p [a,b,c,d,e]): ∀ us:List α,us.length=5->p us:=OW λa=>Tt (h a)
end
section
variable{X:Cx}{pg:Tb}{k:Nat}{e iter:Vu}{ma:ME}{mt:MT}{mI:MI}{scope:Y7}{ifs:List Vu}{pos spos py vp wp tp:Pos}{y v w:Str}{i j m n:Nat}
theorem GC.of{K}(h:aaD n i=true):GC K n (eF i) (gN i):=EF (Nat.le_of_ble_eq_true h)
theorem IC(hi:JI X pg k (.Name v vp) iter mI)
  (hb: ∀ cl C s₀ H₀ ex pn,(b6 X pg k->QG (d7 X [v] scope cl C s₀ H₀ ex pn) (.Name v vp) (eF m))/\JF (d7 X [v] scope cl C s₀ H₀ ex pn) pg k ifs mt/\JE (d7 X [v] scope cl C s₀ H₀ ex pn) pg k e ma)
  (hm:aaD X.N.length m=true:=by rfl) (hkind:scope.kind= .function:=by rfl) (hlc:gX scope.names X.env.scope.names X.N [v]=true:=by rfl) (hs: ∀ x,Vt iter X.env x=pure x:=by intro _;rfl) :
  JE X pg k (.ListComp e [⟨.Name v vp,iter,ifs,0⟩] scope pos) (jf 1 mI (gN m) mt ma):=t9 [v] hkind hlc hi hb (GC.of hm) hs
theorem IU(hi:JI X pg k (.Tuple [.Name v vp,.Name w wp] j tp) iter mI)
  (hb: ∀ cl C s₀ H₀ ex pn,(b6 X pg k->QG (d7 X [v,w] scope cl C s₀ H₀ ex pn) (.Tuple [.Name v vp,.Name w wp] j tp) (v9 X.K 2 (lD (eF m) (lD (eF n) ze))))/\JF (d7 X [v,w] scope cl C s₀ H₀ ex pn) pg k ifs mt/\JE (d7 X [v,w] scope cl C s₀ H₀ ex pn) pg k e ma)
  (hm:aaD X.N.length m=true:=by rfl) (hn:aaD X.N.length n=true:=by rfl) (hkind:scope.kind= .function:=by rfl) (hlc:gX scope.names X.env.scope.names X.N [v,w]=true:=by rfl) (hs: ∀ x,Vt iter X.env x=pure x:=by intro _;rfl) :
  JE X pg k (.ListComp e [⟨.Tuple [.Name v vp,.Name w wp] j tp,iter,ifs,0⟩] scope pos) (jf 2 mI (gT 2 (aI (gN m) (aI (gN n) cZ))) mt ma):=t9 [v,w] hkind hlc hi hb (B5 (jT (GC.of hm) (jT (GC.of hn) xb))) hs
theorem HY(hN:X.N.Nodup)(hi:JI X pg k (.Name v vp) iter mI)
  (hb: ∀ cl C s₀ H₀ ex pn,(b6 X pg k->QG (d7 X [v] scope cl C s₀ H₀ ex pn) (.Name v vp) (eF m))/\JF (d7 X [v] scope cl C s₀ H₀ ex pn) pg k ifs mt/\JE (d7 X [v] scope cl C s₀ H₀ ex pn) pg k e ma)
  (hm:aaD X.N.length m=true:=by rfl) (hiy:X.N[i]?=fv y:=by rfl) (hy:Loc X.env.scope y:=by first | exact abq rfl | exact aaq rfl) (hkind:scope.kind= .function:=by rfl) (hlc:gX scope.names X.env.scope.names X.N [v]=true:=by rfl)
  (hsw:Xh (.ListComp e [⟨.Name v vp,iter,ifs,0⟩] scope pos) (fv (.Name y py)) spos.line X.env=pure true:=by rfl) (hs: ∀ x,Vt iter X.env x=pure x:=by intro _;rfl)
  (hf:X.fn y=true\/X.env.scope.names.lookup y=fv .local:=by first | exact .inl rfl | exact .inr rfl | assumption) :
  JS X pg k (.Assign [.Name y py] (.ListComp e [⟨.Name v vp,iter,ifs,0⟩] scope pos) spos) (ai (jf 1 mI (gN m) mt ma) (gN i)):=uk [v] i hkind hlc hN hiy hy hi hb (GC.of hm) hsw hs hf
theorem J4(hN:X.N.Nodup)(hi:JI X pg k (.Tuple [.Name v vp,.Name w wp] j tp) iter mI)
  (hb: ∀ cl C s₀ H₀ ex pn,(b6 X pg k->QG (d7 X [v,w] scope cl C s₀ H₀ ex pn) (.Tuple [.Name v vp,.Name w wp] j tp) (v9 X.K 2 (lD (eF m) (lD (eF n) ze))))/\JF (d7 X [v,w] scope cl C s₀ H₀ ex pn) pg k ifs mt/\JE (d7 X [v,w] scope cl C s₀ H₀ ex pn) pg k e ma)
  (hm:aaD X.N.length m=true:=by rfl) (hn:aaD X.N.length n=true:=by rfl) (hiy:X.N[i]?=fv y:=by rfl) (hy:Loc X.env.scope y:=by first | exact abq rfl | exact aaq rfl) (hkind:scope.kind= .function:=by rfl) (hlc:gX scope.names X.env.scope.names X.N [v,w]=true:=by rfl)
  (hsw:Xh (.ListComp e [⟨.Tuple [.Name v vp,.Name w wp] j tp,iter,ifs,0⟩] scope pos) (fv (.Name y py)) spos.line X.env=pure true:=by rfl) (hs: ∀ x,Vt iter X.env x=pure x:=by intro _;rfl)
  (hf:X.fn y=true\/X.env.scope.names.lookup y=fv .local:=by first | exact .inl rfl | exact .inr rfl | assumption) :
  JS X pg k (.Assign [.Name y py] (.ListComp e [⟨.Tuple [.Name v vp,.Name w wp] j tp,iter,ifs,0⟩] scope pos) spos) (ai (jf 2 mI (gT 2 (aI (gN m) (aI (gN n) cZ))) mt ma) (gN i)):=uk [v,w] i hkind hlc hN hiy hy hi hb (B5 (jT (GC.of hm) (jT (GC.of hn) xb))) hsw hs hf
end
end P3
end
section
open PySem PySem.W PyProof.Rows
namespace L2
open PySem PySem.Spec PyProof.Rows
theorem r9: ∀{us ss},YG us ss-> ∀ i hu(hs:i < ss.length),aaE a us[i]=(ss[i] == a)
 | _,_,.nil,i,hu,_=>absurd hu (Yz i)
 | _,_,.cons x t h,0,_,_=>rfl
 | _,_,.cons x t h,i+1,hu,hs=>r9 h i (ZY hu) (ZY hs)
theorem Bi{ss:List Str}(h:a∈ss):ss.idxOf a < ss.length:=List.idxOf_lt_length_iff.mpr h
end L2
namespace P3
open PySem PySem.Spec PyProof.Rows L2
section
variable{X:Cx}{pg:Tb}{k j n:Nat}{es:List Vu}{t:Dl}{pos:Pos}{vars:List Str}{scope:Y7}{cl:List (Str × U0)}{C:U0}{s0:UM}{H0:Hp}{ex:List U0}{pn:List (U0 × Obj)}
theorem Gi(A:b6 X pg k)(h:Lo (d7 X vars scope cl C s0 H0 ex pn) es t)(hn:(VM es (d7 X vars scope cl C s0 H0 ex pn).env).length=n:=by rfl)(hst:(VM es (d7 X vars scope cl C s0 H0 ex pn).env).findIdx? (·.1)=UB:=by rfl):QG (d7 X vars scope cl C s0 H0 ex pn) (.Tuple es j pos) (v9 X.K n t):=AI A.calm h hn hst
end
theorem As(hh:A.handled=UB)(hne:l≠it) us :
  Draws prog w A it [it,l] us.size (λi v=>us[i]?=fv v) (λi h=>h.IsTupleIter it l i/\h.IsTuple l us) where
 live:=λ_ _ z=>by obtain⟨⟨o,e,_⟩,_⟩:=z;exact⟨o,e⟩
 frame:=λ_ _ _ z kp=>by
  obtain⟨⟨o,e,r⟩,⟨o2,e2,r2⟩⟩:=z;exact⟨⟨o,kp it (by simp) o e,r⟩,⟨o2,kp l (by simp) o2 e2,r2⟩⟩
 item:=λi s Q E hi z q=>gL z.1 z.2 (x:=us[i]) (by simp [hi]) λh' a b=>q _ h' s.toks (by simp [hi]) ⟨a,by obtain ⟨o2,e2,r2⟩:=z.2;exact ⟨o2,b.extBut _ _ hne e2,r2⟩⟩ b
 done:=λs Q E z q=>kQ hh z.1 z.2 (by simp) q
def TZ(K : UC)(a : U0) : It :=
  ⟨λi H => ∃ xs x, dQ K H a xs /\ xs[i]? = fv x,
   λi H v H' => ∃ p x, H p = UB /\ v = .ref p /\ H' = upd H p (.tup [.int (i), x]) /\ ∀ xs, dQ K H a xs -> xs[i]? = fv x,
   λi H => ∃ xs, dQ K H a xs /\ xs.length = i⟩
theorem yg{K}(hei:e≠it)(hea:e≠a)(hai:a≠it) :
  Turn P w K (.Tuple els j pos) (TZ K a) [e,it] e (λi h=>(∃ old,IsEnum h e it i old)∧h.IsTupleIter it a i) where
 mem:=by simp
 obj:=λi h z b hb=>by
  obtain⟨⟨old,e1⟩,⟨o4,e4,_,d4⟩⟩:=z;simp only[Vc,or_false,UW] at hb;rcases hb with rfl | rfl
  . exact⟨_,e1,λv q=>by cases q⟩
  . exact⟨_,e4,λv q=>by simp_all⟩
 keep:=λi h h' z kp=>by
  obtain⟨⟨old,e1⟩,⟨o4,e4,d4⟩⟩:=z;exact⟨⟨old,kp _ (by simp) _ e1⟩,⟨o4,kp _ (by simp) _ e4,d4⟩⟩
 item:=by
  intro X hP hw hK hc i pins s σ H E I hf z hg;subst hP hw hK;obtain⟨xs,x,s1,ex⟩:=hg;obtain⟨us,ru,pu,_⟩:=I.tuple s1;obtain⟨ux,eu,rx⟩:=ru.get ex;obtain⟨⟨old,e1⟩,hit⟩:=z;have hlt:i < us.toArray.size:=by simpa using(UJ.mp eu).1
  refine wpAny_pyNext_enum_itemD (As (A:=X.A.in1) (show X.A.in1.handled=UB from I.ok.hd hc) hai us.toArray) e1 ⟨hit,pu⟩ hlt hei (by simp[hei,hea]) λy h1 tk f1 f2 f3 f4 f5 f6=>⟨_,rfl,?_⟩
  have hy:y=ux:=by
   simp_all
  subst hy;refine wpAny_letOwnedTupleGo_enum (s:={ s with heap:=h1,toks:=tk+1}) f2 λh2 g1 g2=>?_;have ex1:=g2.extBut;have elt:=UT e1;have new:=ex1 _ _ (WD elt) f4;have hn:=I.bb.fresh (UL _);have I2:Inv X pins σ (upd H s.heap.objs.size (.tup [.int (i),x])) { s with heap:=h2,toks:=tk+1}:=by
   refine qp (turned:=[e,it]) I (λb o nb q=>?_) (λb hb=>hf b hb) (UL _) ?_
   . simp only[UW,Vc,or_false,not_or] at nb;exact ex1 _ _ nb.1 (f6 b o nb.1 nb.2 q)
   . exact⟨by show 2<=UK;decide,[.int i tk,y],.cons ⟨tk,rfl⟩ (.cons rx .nil),_,new,rfl,_,rfl,rfl⟩
  refine⟨.ref s.heap.objs.size,upd H s.heap.objs.size (.tup [.int (i),x]),I2,rfl,⟨_,x,hn,rfl,rfl,λxs' q=>?_⟩,?_,λb hb=>?_⟩
  . rw[I.iW q s1];exact ex
  . obtain⟨⟨o4,e4,c4⟩,_⟩:=f3;exact⟨⟨_,by simpa using g1⟩,⟨o4,ex1 _ _ hei.symm e4,c4⟩⟩
  . have hb0:=(hf b hb).1;have: ∃ o,s.heap.get? b=fv o:=by
     obtain⟨o4,e4,_⟩:=hit;simp only[Vc,or_false,UW] at hb;rcases hb with rfl | rfl
     . exact⟨_,e1⟩
     . exact⟨_,e4⟩
    obtain⟨o,eo⟩:=this;rw[ax (U7 (UT eo))];exact hb0
 done:=by
  intro X hP hw hK hc i pins s σ H E I hf z hg;subst hP hw hK;obtain⟨xs,s1,he⟩:=hg;obtain⟨us,ru,pu,_⟩:=I.tuple s1;obtain⟨⟨old,e1⟩,hit⟩:=z;have ei:i=us.toArray.size:=by have:=ru.length;simp;omega
  rw[ei] at hit;refine wpAny_pyNext_enum_endD (As (A:=X.A.in1) (show X.A.in1.handled=UB from I.ok.hd hc) hai us.toArray) e1 ⟨hit,pu⟩ λh1 kp=>⟨rfl,BV (turned:=[e,it]) (t':=s.toks) I (λb o nb q=>?_) λb hb=>hf b hb⟩
  simp only[UW,Vc,or_false,not_or] at nb;exact kp b o nb.2 q
 self:=λA i s Q E z h=>by
  obtain⟨⟨old,e1⟩,_⟩:=z;exact wpAny_pyIter_enum e1 h
abbrev NS(h:VO)(a:U0):VO:=Wc (Wc h (tI a)) { cls:= .type "enumerate",data:= .fields #[.none,.bool false,.ref h.objs.size,abT 0,.none,.none]}
theorem rO a us:abG (XT.«enumerate.__new__» ⟨[.type "enumerate",.ref a],[]⟩) (λ_ R u=>u.heap.IsTuple a us/\R (.ok (.ret (.ref (u.heap.objs.size+1)))) { u with heap:=NS u.heap a}) :=
 .of_wp λprog w A R u hu=>by
  obtain⟨hp,gg,dd,tk,os⟩:=u;obtain⟨ha,hr⟩:=hu;have sub:=sub_enumerate;have fa:=ha
  wp_walk using Wr fa
  refine wpAny_stack_any λz=>?_;refine UO ?_;have fin1: ∀ v u,v=U6 (hp.objs.size+1)->u=(⟨NS hp a,gg,dd,tk,os⟩:UM)->R (.ok (.ret v)) u:=λv u e1 e2=>by rw[e1,e2];exact hr
  split
  . rename_i c _ _ _ _ _;cases c == Xl "enumerate" <;>(wp_walk using Wr fa;exact⟨_,rfl,fin1 _ _ (by simp[Vy]) rfl⟩)
  . wp_walk using Wr fa
    exact⟨_,rfl,fin1 _ _ (by simp[Vy]) rfl⟩
section
variable{X:Cx}{pg:Tb}{k:Nat}{a:Vu}{ma:ME}{p pos:Pos}{els:List Vu}{j:Nat}{tpos:Pos}
theorem Kw h l:(∃ old,IsEnum (NS h l) (h.objs.size+1) h.objs.size ((0:Nat)) old)/\(NS h l).IsTupleIter h.objs.size l 0:=by
 have n1:(Wc h (tI l)).objs.size=h.objs.size+1:=Vy ..;refine⟨⟨.none,?_⟩,⟨tI l,?_,rfl,rfl⟩⟩
 . rw[<- n1];exact UY _ rfl
 . refine UD _ ?_;exact UY _ rfl
def Jj(K:UC)(ta:TA):TI:=fun σ H R=>ta σ H λvs H1=> ∃ a1 xs,vs=[.ref a1]/\dQ K H1 a1 xs/\R (TZ K a1) H1
theorem D4(hg:Gl X "enumerate")(hm:X.mg "enumerate" =UB)(ha:PA X [a] ta)(hs:Vk [a] X.env=[(false,Wt a X.env)]) :
  PI X (.Tuple els j tpos) (.Call (.Name "enumerate" p) [a] [] pos) (Jj X.K ta):=by
 intro pins s σ H R I h;refine Call_ (g8 I hg hm boot_enumerate (VN (Ad (ha pos pins s σ H _ I h) λus s1 vs H1 I1 r1 ⟨a1,xs,e,q1,q⟩=>?_) (by rw[hs];rfl) (by rfl)));subst e;cases r1 with
 | cons ra rr =>
  cases rr
  cases ra
  obtain⟨u1,_,p1,_⟩:=I1.tuple q1
  refine callType_new F.called_enumerate (by decide) (F.typeCall_enumerate_1 _) (F.newCall_enumerate_1 _) (λobj=>F.args_object_init_2 obj _) F.entry_enumerate_new (rO a1 u1.toArray) ⟨p1,?_⟩
  obtain⟨⟨old,Z⟩,W⟩:=Kw s1.heap a1
  have lt1:a1 < s1.heap.objs.size:=by obtain⟨_,e,_⟩:=p1;exact UT e
  refine⟨⟨_,Z,rfl⟩,wpAny_pyIter_enum Z ?_⟩
  have kp: ∀ c o,s1.heap.get? c=fv o->(NS s1.heap a1).get? c=fv o:=λc o e=>UD _ (UD _ e)
  refine⟨s1.heap.objs.size+1,[s1.heap.objs.size+1,s1.heap.objs.size],_,_,H1,rfl,I1.kept (t':=s1.toks) kp,yg (WD (Zw _)) (WD (WQ lt1)) (U7 lt1),⟨⟨old,Z⟩,W⟩,λc hc=>?_,q⟩
  have hle:s1.heap.objs.size<=c:=by
   grind
  exact I1.F4 hle (I1.bb.fresh hle)
def xU(a:ME):MI:=λc e h=>(a c e h).bind λx h1=>match x.seq? with
 | some xs=> .ok ⟨UB,xs.zipIdx.map λq=> .tup [.int (q.2),q.1]⟩ h1
 | none=> .no
theorem Ej(hg:Gl X "enumerate")(ha:JE X pg k a ma)(hs1:noStar a=true:=by rfl):JI X pg k (.Tuple els j tpos) (.Call (.Name "enumerate" p) [a] [] pos) (xU ma):=⟨λA=>by
 obtain⟨_,q1,s1⟩:=ha.h A;refine⟨_,⟨D4 hg (A.blt _ (by decide +kernel)) (qk q1 vT hs1).h (by rw[ba hs1];rfl)⟩,fun ρ h H e σ R it h' s r q P=>?_⟩;obtain⟨x,h1,e1,q⟩:=bind_eq.mp q;refine s1 ρ h H e σ _ x h1 s r e1 λx' ρ1 H1 g1 z1 r1=>?_;split at q
 . rename_i xs ex;cases q;obtain⟨a1,us,rfl,t1,d1⟩:=rel.seq ex r1;refine⟨a1,us,rfl,t1,P ρ1 H1 _ g1 z1 λi ρ3 h3 H3 g s3 _=>⟨λv ev=>?_,λei=>?_⟩⟩
   . rw[U1] at ev;cases ez:xs.zipIdx[i]? with
     | none=>simp_all
     | some pr =>
      rw[ez] at ev
      cases ev
      have zx:xs[i]?=fv pr.1/\pr.2=i:=by
       rw[List.getElem?_zipIdx] at ez;cases ey:xs[i]? with
       | none=>simp_all
       | some y=>rw[ey] at ez;cases ez;exact⟨rfl,by simp⟩
      obtain⟨u,f1,f2⟩:=(aq.gr g _ _ d1).get zx.1
      refine⟨⟨us,u,g.Dh t1,f1⟩,?_⟩
      rintro v' H' ⟨p,u',hp,rfl,rfl,k1⟩
      have:=k1 us (g.Dh t1)
      rw[f1] at this;cases this
      have gn:Gr ρ3 H3 ρ3 (upd H3 p (.tup [.int (i:Int),u])):=Gr.wI hp
      refine⟨ρ3,gn,s3.tup hp,?_⟩
      exact⟨p,_,rfl,a9,au.mpr ⟨_,_,rfl,by rw[rel,zx.2],aq.one (rel.gr gn _ _ f2)⟩⟩
   . refine⟨us,g.Dh t1,?_⟩;have:i=xs.length:=by simpa using ei
     rw[<- d1.len];exact this.symm
 . cases q⟩
end
section
variable{c:CF}{e:aZ}{h:PH}{a:ME}{xs:List PV}
noncomputable def SY(x:PV)(h1:PH):RV va:=match x.seq? with
 | some xs=> .ok ⟨UB,xs.zipIdx.map λq=> .tup [.int (q.2),q.1]⟩ h1
 | none=> .no
theorem yf:xU a c e h=(a c e h).bind SY:=(rfl)
theorem tQ:SY (.tup xs) h= .ok ⟨UB,xs.zipIdx.map λq=> .tup [.int (q.2),q.1]⟩ h:=(rfl)
end
section
variable{X:Cx}{pg:Tb}{k:Nat}
theorem xC: ∀ n b vs,vs.length=n->(∀ j v,vs[j]?=fv v-> ∃ t,v=Xq ((b+j:Nat)) t)->Vals ((aaw b n).map λi:Nat=>V.int (i)) vs
 | 0,b,vs,hl,_=>by
  cases vs with
  | nil=>exact .nil
  | cons v r=>cases hl
 | n+1,b,vs,hl,h=>by
  cases vs with
  | nil=>cases hl
  | cons v r =>
   refine .cons ?_ (xC n (b+1) r (by simpa using hl) λj v e=>?_)
   . obtain⟨t,rfl⟩:=h 0 v rfl;exact⟨t,rfl⟩
   . obtain⟨t,rfl⟩:=h (j+1) v e;exact⟨t,by grind⟩
variable{a:Vu}{ta:TA}{mr:MA}{p p2 p3 pos:Pos}
def Um(ta:TA):TE:=fun σ H Q=>ta σ H λvs H1=> ∃ n:Nat,vs=[.int n]/\n<=100000/\ ∀ l,H1 l=UB->Q (.ref l) (upd H1 l (.lst ((Vq n).map λi:Nat=>V.int (i))))
theorem yJ(hL:Gl X "list")(mL:X.mg "list" =UB)(hR:Gl X "range")(mR:X.mg "range" =UB)(hd:X.A.handled=UB)(ha:PA X [a] ta)(hs:Vk [a] X.env=[(false,Wt a X.env)])(hs2:Vk [.Call (.Name "range" p2) [a] [] p3] X.env=[(false,Wt (.Call (.Name "range" p2) [a] [] p3) X.env)]) :
  PE X (.Call (.Name "list" p) [.Call (.Name "range" p2) [a] [] p3] [] pos) (Um ta):=by
 intro pins s σ H Q I h;refine Call_ (g8 I hL mL boot_list (VN ?_ hs2 rfl));refine XW ?_;refine Call_ (g8 I hR mR boot_range (VN (Ad (ha p3 pins s σ H _ I h) λus s1 vs H1 I1 r1 q1=>?_) hs rfl));obtain⟨n,e,hn,q⟩:=q1;subst e;cases r1 with
 | cons r rr =>
  cases rr
  obtain⟨t,rfl⟩:=r
  refine call_range_1 (Za ?_)
  have rs:Zv 0 (n) 1=(n):=by rw[rangeSize_one];split<;>omega
  refine call_list_range hd (ab6 ..) (small_one (by omega) (by omega) (by omega) (by omega)) rs (by omega) λh' tk acc c' kp e it=>?_
  have I2:=I1.kept (t':=s1.toks+1+1) λb o e=>UD { cls:=Xl "range",data:=Data.fields #[Xq 0 s1.toks,Xq (n) t,Xq 1 (s1.toks+1)]} e
  refine⟨.ref _,_,I2.laid (t':=tk) kp (UL _) (show aW X.prog X.w _ h' _ (.lst ((Vq n).map λi:Nat=>V.int (i))) from⟨?_,acc.toList,c',?_,by rw[e]⟩),rfl,q _ (I2.bb.fresh (UL _))⟩
  . rw[UE,abj];exact Va hn (by decide)
  . rw[List.range_eq_range'];refine xC n 0 acc.toList (by exact it.1) λj v e=>?_;obtain⟨t,rfl⟩:=it.2 j v (by simp_all);exact⟨t,by simp_all⟩
theorem yc{K}: ∀ l:List Nat,aq K ρ H (l.map λi:Nat=>PV.int (0+(i))) (l.map λi:Nat=>V.int (i))
 | []=>by rfl
 | i::l=>by exact au.mpr ⟨_,_,rfl,by rw[rel,YJ],yc l⟩
def R3(mr:MA):ME:=λc e h=>(mr c e h).bind λvs h1=>match vs with
 | [.int j]=>if 0<=j/\j<=100000 then .ok (.ref h1.length) (h1++[.lst (ak 0 j.toNat)]) else .no
 | _=> .no
theorem yT(hL:Gl X "list")(hR:Gl X "range")(ha:JA X pg k [a] mr)(hs:Vk [a] X.env=[(false,Wt a X.env)]:=by rfl):JE X pg k (.Call (.Name "list" p) [.Call (.Name "range" p2) [a] [] p3] [] pos) (R3 mr):=⟨λA=>by
 obtain⟨_,q1,s1⟩:=ha.h A;refine⟨_,⟨yJ hL (A.blt _ (by decide +kernel)) hR (A.blt _ (by decide +kernel)) A.room.hd q1.h hs rfl⟩,fun ρ h H e σ Q v h' s r q P=>?_⟩;obtain⟨vs,h1,e1,q⟩:=bind_eq.mp q;refine s1 ρ h H e σ _ vs h1 s r e1 λus ρ1 H1 g1 z1 r1=>?_;split at q
 . split at q
   . rename_i hj;cases q;obtain⟨u,rfl,r2⟩:=aT r1;subst r2;obtain⟨n,rfl⟩:=We hj.1;refine⟨n,rfl,by omega,λl hl=>?_⟩;exact cX z1 (yc (Vq n)) (P.gr g1) l hl
   . simp_all
 . nomatch q⟩
end
section
variable{c:CF}{e:aZ}{h:PH}{r:MA}
def Ua(vs:List PV)(h1:PH):RV PV:=match vs with
 | [.int j]=>if 0<=j/\j<=100000 then .ok (.ref h1.length) (h1++[.lst (ak 0 j.toNat)]) else .no
 | _=> .no
theorem Hf:R3 r c e h=(r c e h).bind Ua:=(rfl)
theorem CA(hj:0<=j/\j<=100000):Ua [.int j] h= .ok (.ref h.length) (h++[.lst (ak 0 j.toNat)]):=if_pos hj
end
end P3
end
section
open PySem PySem.W PyProof.Rows
namespace L2
open PySem PySem.Spec PyProof.Rows
open PySem.AutoSeq1 (wpAny_loadPart')
theorem EB f (J:List Nat-> β ->UM->Prop) Q
  (step: ∀ i r b u,J (i::r) b u->U2 M A (f i b) (λz u'=>match z with
   | .yield b'=>J r b' u'
   | .done b'=>Q b' u') E u) (stop: ∀ b u,J [] b u->Q b u) (rg:Std.Legacy.Range) (b) (h:J (aaw rg.start rg.size rg.step) b s):U2 M A (forIn rg b f) Q E s:=by
 rw[aax];exact wpAny_forIn_list f J Q step stop _ b h
theorem yo l aj n di sl x (e:UH->Bool) (he: ∀ y,y∈aj->MeetsSeq.EqGives y x (e y)) j hj (h1:e aj[j]=true) (h0: ∀(m:Nat) hm,m < j->e aj[m]=false) :
  abG (XT.«tuple.index» ⟨[.ref l,x],[]⟩) (λ_ R s=>s.heap.get? l=fv { cls:= .type "tuple",dict:=di,data:= .seq aj n,slots:=sl}/\R (.ok (.ret (.int (j) s.toks))) { s with toks:=s.toks+1}) :=
 .of_wp λprog w A R u hu=>by
  obtain⟨hp,gg,dd,tk,os⟩:=u;obtain⟨hl,hr⟩:=hu
  wp_walk using wpAny_loadPart' hl,EB _ (λrest b u'=>b=(UB,())/\u'=(⟨hp,gg,dd,tk,os⟩)/\ ∃ m,rest=aaw m (aj.size - m)/\m<=j) _
  case step =>
   rintro i r b u' ⟨rfl,rfl,m,em,mj⟩
   have hm:m < aj.size:=by omega
   rw[show aj.size - m=(aj.size - (m+1))+1 by omega,abz] at em
   obtain⟨rfl,rfl⟩:=List.cons.inj em
   have ei:=Wo hm
   rw[ei]
   refine UA (he aj[i] (Array.getElem_mem hm) prog w _ _ _ _ ?_)
   by_cases c:i=j
   . subst c;rw[h1]
     wp_walk
     exact⟨_,rfl,hr⟩
   . rw[h0 i hm (by omega)]
     wp_walk
     exact⟨rfl,rfl,i+1,rfl,by omega⟩
  case stop =>
   rintro b u' ⟨_,_,m,em,mj⟩
   have:=congrArg Yo em
   rw[V8,List.length_range'] at this
   omega
  case h=>exact⟨rfl,rfl,0,by simp_all,Vw _⟩
section
variable{X:Cx}
def GP:V->List V->Hp->VK->Prop:=λx vs H Q=> ∃(l:U0)(ss:List Str)(a:Str),x= .ref l/\vs=[.str a]/\H l=fv (.lst (ss.map V.str))/\a∈ss/\Q (.int (ss.idxOf a)) H
theorem places{a:Str}{t:Tok}{aj:List UH}{ss:List Str}(sa:YG aj ss)(ln:aj.length=ss.length)(ha:a∈ss) :
  ∃ hj:ss.idxOf a < aj.toArray.size,aaE a aj.toArray[ss.idxOf a]=true/\ ∀(m:Nat)(hm:m < aj.toArray.size),m < ss.idxOf a->aaE a aj.toArray[m]=false:=by
 have hj:=Bi ha;refine⟨by rw[Vb,ln];exact hj,?_,λm hm hlt=>?_⟩
 . show aaE a (aj[ss.idxOf a]'(by rw[ln];exact hj))=true;rw[r9 sa _ _ hj,List.getElem_idxOf hj];exact beq_self_eq_true a
 . have hm':m < ss.length:=by simp_all
   show aaE a (aj[m]'(by omega))=false;have nf:=List.not_of_lt_findIdx (p:=(· == a)) (xs:=ss) (i:=m) hlt
   rw[r9 sa _ _ hm'];simpa using nf
theorem zr:Qm X "list.index" GP:=by
 intro pins s σ H x vs v us Q I rx rv h;obtain⟨l,ss,a,rfl,rfl,hH,ha,q⟩:=h;cases rx;obtain⟨u,rfl,t,rfl⟩:=rv.one;obtain⟨z,aj,n,r,hl,e⟩:=I.vB hH;have sa:=gE r;have ln:aj.length=ss.length:=by simp_all
 obtain⟨hj,h1,h0⟩:=places (t:=t) sa ln ha;refine WA F.slot_list_index ⟨_,e,rfl⟩ F.entry_list_index (F.args_list_index_2 _ _)
  (MeetsSeq.list_index l aj.toArray n (.str a t) (aaE a) (λy hy=>eq_isStrOf a t sa y (by simp_all)) (ss.idxOf a) hj (by have:=Bi ha;have:UK=16777216:=rfl;omega) h1 h0) ⟨e,?_⟩
 exact⟨.int (ss.idxOf a),H,I.tok _,⟨_,rfl⟩,q⟩
def DY(K:UC):V->List V->Hp->VK->Prop:=λx vs H Q=> ∃(l:U0)(ss:List Str)(a:Str),x= .ref l/\vs=[.str a]/\dQ K H l (ss.map V.str)/\a∈ss/\Q (.int (ss.idxOf a)) H
theorem zL:Qm X "tuple.index" (DY X.K):=by
 intro pins s σ H x vs v us Q I rx rv h;obtain⟨l,ss,a,rfl,rfl,hH,ha,q⟩:=h;cases rx;obtain⟨u,rfl,t,rfl⟩:=rv.one;obtain⟨aj,r,⟨o,e,ec,n,ed⟩,z⟩:=I.tuple hH;have sa:=gE r;have ln:aj.length=ss.length:=by rw[<- r.length,UE]
 obtain⟨hj,h1,h0⟩:=places (t:=t) sa ln ha;obtain⟨oc,od,oa,os⟩:=o;cases ec;cases ed;refine WA F.slot_tuple_index ⟨_,e,rfl⟩ F.entry_tuple_index (F.args_tuple_index_2 _ _)
  (yo l aj.toArray n od os (.str a t) (aaE a) (λy hy=>eq_isStrOf a t sa y (by simp_all)) (ss.idxOf a) hj h1 h0) ⟨e,?_⟩
 exact⟨.int (ss.idxOf a),H,I.tok _,⟨_,rfl⟩,q⟩
variable{o e:Vu}{to:TE}{t:TA}{name:Str}{apos cpos:Pos}{id:String}{r:V->List V->Hp->VK->Prop}
end
end L2
namespace P3
open PySem PySem.Spec PyProof.Rows L2
section
variable{X:Cx}{pg:Tb}{k:Nat}{d e:Vu}{md:ME}{mr:MA}{apos cpos:Pos}
def kg:PV->List PV->PH->RV PV:=λx vs h=>match x,vs with
 | .ref n,[.str a]=>(match h[n]? with
  | some (.lst xs)=>(match cz xs with
   | some ss=>if a∈ss then .ok (.int (ss.idxOf a)) h else .no
   | none=> .no)
  | _=> .no)
 | _,_=> .no
theorem AX:b6 X pg k-> ∃ r,Di X "list.index" r/\MY X.K "list" r kg bM:=λA=>⟨_,zr,fun ρ h H x x' s r e=>mW s r e,fun ρ h H x x' xs us Q v h' s rx rs q P=>by
 unfold kg at q;split at q
 . rename_i n a;split at q
   . rename_i ys en;split at q
     . rename_i ss es;split at q
       . rename_i ha;cases q;obtain⟨b,vs,rfl,ea,e1,e2⟩:=s.lst en rx;obtain⟨u,rfl,r⟩:=aT rs;subst r;rw[fV es,b9] at e2;subst e2;exact⟨b,ss,a,rfl,rfl,e1,ha,P _ ρ H (.refl _ _) s (by rw[rel])⟩
       . nomatch q
     . nomatch q
   . nomatch q
 . nomatch q⟩
def sU(x:PV)(vs:List PV)(h:PH):RV PV:=match x,vs with
 | .ktup xs,[.str a]=>(match cz xs with
  | some ss=>if a∈ss then .ok (.int (ss.idxOf a)) h else .no
  | none=> .no)
 | _,_=> .no
def Rq(v:PV)(mr:MA):ME:=λc e h=>(mr c e h).bind λvs h2=>sU v vs h2
theorem yN{p}(hc:pg.con x=fv v)(hg:Gl X x)(ha:JA X pg k [e] mr)(hd:(x == ("__debug__"))=false:=by decide)(hbase:Xj (.Name x p) "index" X.env (Wt (.Name x p) X.env)=Wt (.Name x p) X.env:=by rfl)(hline:(apos.endLine == cpos.line)=true:=by rfl)(hs:noStar e=true:=by rfl) :
  JE X pg k (.Call (.Attribute (.Name x p) "index" apos) [e] [] cpos) (Rq v mr):=⟨λA=>by
 obtain⟨u,v',e1,e2,cn,e3⟩:=A.con x v hc;obtain⟨_,q1,s1⟩:=ha.h A;refine⟨_,Hn PySem.F.plainAttrs_tuple PySem.F.slot_tuple_index PySem.F.type_tuple_index zL (xQ hg e1 e2 hd) q1 hbase hline hs,fun ρ h H e σ Q w h' z r q P=>?_⟩;obtain⟨xs,h2,e2',q⟩:=bind_eq.mp q;unfold sU at q;split at q
 . rename_i ys a _;split at q
   . rename_i ss es;split at q
     . rename_i hm;cases q;have r0:=e3 ρ H;obtain⟨pa,vs,rfl,_,_⟩:=r0;obtain⟨o,o1,o2,o3⟩:=cn pa rfl;refine⟨.inr (.inl ⟨rfl,o,o1,o2,o3⟩),?_⟩;refine s1 ρ h H e σ _ _ _ z r e2' λus ρ2 H2 g2 z2 r2=>?_;obtain⟨p',vs',ep,sq,rv⟩:=rel.seq (x:= .ktup ys) rfl (e3 ρ2 H2);cases ep;obtain⟨u',rfl,ru⟩:=aT r2;subst ru;rw[fV es,b9] at rv;subst rv;exact⟨_,ss,a,rfl,rfl,sq,hm,P.gr g2 _ ρ2 H2 (.refl _ _) z2 (by rw[rel])⟩
     . nomatch q
   . nomatch q
 . nomatch q⟩
end
section
variable{c:CF}{e:aZ}{h:PH}{d:ME}{r:MA}{x v:PV}{ss:List Str}{a:Str}{n:Nat}
theorem Hj:Rq v r c e h=(r c e h).bind (sU v):=(rfl)
theorem AF(ha:a∈ss):sU (.ktup (ss.map PV.str)) [.str a] h= .ok (.int (ss.idxOf a)) h:=by
 unfold sU;simp only[eE,if_pos ha]
theorem FA(e1:h[n]?=fv (.lst (ss.map PV.str)))(ha:a∈ss):kg (.ref n) [.str a] h= .ok (.int (ss.idxOf a)) h:=by
 unfold kg;simp only[e1,eE,if_pos ha]
end
section
variable{X:Cx}{pg:Tb}{k:Nat}
def y6(d:Xo):=d.showable=true/\d.hasDict=false/\d.depth<=64/\d.shown.length<=UK
instance (d:Xo):Decidable (y6 d):=by unfold y6;infer_instance
def wt:List PV->PH->RV PV:=λxs h=>match xs with
 | [.bl b]=> .ok (.str (if b=true then UI "True" else UI "False")) h
 | [.non]=> .ok (.str (UI "None")) h
 | [.tup ys]=>(match dat 6 h (.tup ys) with
  | some d=>if y6 d then .ok (.str d.shown) h else .no
  | none=> .no)
 | [.ref n]=>(match dat 6 h (.ref n) with
  | some d=>if y6 d then .ok (.str d.shown) h else .no
  | none=> .no)
 | _=> .no
end
section
variable{P:Vl}{w:VE}{K:UC}{mg:Str->Option UH}{pg:Tb}
theorem aN.on{st}(a:At K mg (UI f) st)(S:dZ N ps (az st))(hl:N.length=ps.length+n)
  (hb: ∀ kV doc pm an cdv ct us,us.length=ps.length->XF (V2 (UI f) (UI f) (cA st) (bo st) (az st) .none kV doc pm an cdv ct) ⟨us,[]⟩=pure (ps.zip us))
  (h:N.Nodup-> ∀ base fa cdv A outer s H E k,zY (jZ uQ P w K mg base N (UI f) (az st) fa cdv A outer s H E).sC pg k (bo st) b):aN P w K mg pg f ⟨ps,n,b⟩ st N :=
 ⟨a,S,hl,hb,h S.nd⟩
end
def eI(i:Int):=eC (.int i)
def eS(x:Str):=eC (.str x)
def eX(i:Nat)(j:Int):=ao aG (aa i) (eI j)
def mQ a b:=aA (ao ja a b)
def a1 a:=ab a ah
def a2 a b:=ab a (a1 b)
def a3 a b d:=ab a (a2 b d)
section
variable{a b d:ME}{c:CF}{e:aZ}{h:PH}{i:Nat}{j:Int}{s:Str}{x y z v:PV}
theorem GZ:eI j c e h= .ok (.int j) h:=rfl
theorem Nh:eS s c e h= .ok (.str s) h:=rfl
def xk(o:Option (Option PV)) j h:=(Ki o h).bind λx h1=>aG x (.int j) h1
theorem NP:eX i j c e h=xk (e[i]?) j h:=rfl
theorem N1:xk (fv (fv v)) j h=aG v (.int j) h:=rfl
def Qu x y h:=(ja x y h).bind sA
def Tg(b:ME) c e x h:=(b c e h).bind (Qu x)
theorem Nx:mQ a b c e h=(a c e h).bind (Tg b c e):=by
 show((a c e h).bind _).bind sA=_;cases a c e h with
 | ok x h1 =>
  show((b c e h1).bind _).bind sA=(b c e h1).bind (Qu x)
  cases b c e h1<;>rfl
 | _=>rfl
theorem Mn:Tg b c e x h=(b c e h).bind (Qu x):=rfl
theorem Ip:Qu x y h=(ja x y h).bind sA:=rfl
noncomputable def Tv(x:PV)(h:PH):RV (List PV):= .ok [x] h
theorem Ni:a1 a c e h=(a c e h).bind Tv:=rfl
theorem Jh:Tv x h= .ok [x] h:=rfl
noncomputable def QN(x y:PV)(h:PH):RV (List PV):= .ok [x,y] h
def To(b:ME) c e x h:=(b c e h).bind (QN x)
theorem HA:a2 a b c e h=(a c e h).bind (To b c e):=by
 show(a c e h).bind _=_;cases a c e h with
 | ok x h1 =>
  show((b c e h1).bind _).bind _=(b c e h1).bind (QN x)
  cases b c e h1<;>rfl
 | _=>rfl
theorem IF:To b c e x h=(b c e h).bind (QN x):=rfl
theorem Jw:QN x y h= .ok [x,y] h:=rfl
noncomputable def Qt(x y z:PV)(h:PH):RV (List PV):= .ok [x,y,z] h
def QV(d:ME) c e x y h:=(d c e h).bind (Qt x y)
def Ta(b d:ME) c e x h:=(b c e h).bind (QV d c e x)
theorem Od:a3 a b d c e h=(a c e h).bind (Ta b d c e):=by
 show(a c e h).bind (K4 (a2 b d) c e)=_;cases a c e h with
 | ok x h1 =>
  show(a2 b d c e h1).bind _=(b c e h1).bind (QV d c e x)
  rw[HA]
  cases b c e h1 with
  | ok y h2 =>
   show((d c e h2).bind _).bind _=(d c e h2).bind (Qt x y)
   cases d c e h2<;>rfl
  | _=>rfl
 | _=>rfl
theorem Mv:Ta b d c e x h=(b c e h).bind (QV d c e x):=rfl
theorem Jb:QV d c e x y h=(d c e h).bind (Qt x y):=rfl
theorem Kh:Qt x y z h= .ok [x,y,z] h:=rfl
end
section
variable{X:Cx}{pg:Tb}{k:Nat}{body:List Z8}{h₀ :ExceptHandler}{hs:List ExceptHandler}{pos:Pos}{m:MS}
theorem KG(nx: ∀ v s,¬ X.xe v s)(h:vU X body t):PS X (.Try body (h₀ ::hs) [] [] pos) t:=λpins s σ H D I hw =>
 wpAny_Try_except (Vo (h pins s σ H D I hw) (λf s1 q=>by
  cases f with
  | next=>exact Yt q
  | _=>exact q) λv s z=>(nx v s z).elim)
theorem HZ(hb:zY X pg k body m):JS X pg k (.Try body (h₀ ::hs) [] [] pos) m:=⟨λA=>by obtain⟨t,q,s⟩:=hb.h A;exact⟨t,⟨KG A.sC q.h⟩,s⟩⟩
end
abbrev Rz(h:VO)(z TI TO T:U0)(b:Bool):Prop :=
 h.get? z=fv { cls:= .type "zip",dict:=UB,data:= .fields #[.int (T:Int) 0,.bool b,.bool false,.ref TI,.ref TO],slots:= #[]}
section
variable{prog:Vl}{w:VE}{A:Wf}{E:UH->UM->Prop}{s:UM}
structure Pn(h:VO)(z TI TO i1 i2 l1 l2:U0)(k:Nat)(xs ys:Array UH):Prop where
 st:(∃ a b,IsZip h z TI TO .none/\Zr h TO a b)\/ ∃ T b o,Rz h z TI TO T b/\h.get? T=fv o/\T≠z/\T≠i1/\T≠i2/\T≠TO
 aj:Zr h TI (.ref i1) (.ref i2)
 one:h.IsListIter i1 l1 k
 two:h.IsListIter i2 l2 k
 l1:h.IsList l1 xs
 l2:h.IsList l2 ys
theorem Pn.ty{TI TO l1 l2}(Z:Pn s.heap z TI TO i1 i2 l1 l2 k xs ys):s.TypeIs (.ref z) "zip" :=by
 rcases Z.st with⟨a,b,e,_⟩ | ⟨T,b,o,e,_⟩
 . exact⟨_,e,rfl⟩
 . exact⟨_,e,rfl⟩
end
end P3
end
section
open PySem PySem.W PyProof.Rows
namespace L2
open PySem PySem.Spec PyProof.Rows
end L2
namespace P3
open PySem PySem.Spec PyProof.Rows L2
end P3
end
section
open PySem PySem.W PyProof.Rows
namespace L2
open PySem PySem.Spec PyProof.Rows
section
variable{X:Cx}
theorem Bh:cC X (VX .FloorDiv) (rI (λ_ j=>0 < j/\j < 18446744073709551616) λi j=> .int (i / j)):=Qq λi j _ _ _ _ _ hc q=>by
 have h1:(0:Int) < j:=hc.1;have h2:j < 18446744073709551616:=hc.2;have z:j.natAbs≠0:=by omega
 have lg:j.natAbs.log2 < 64:=(abJ z).mpr (by omega);exact floordiv_int (by omega) (by rw[Int.fdiv_eq_ediv_of_nonneg i (by omega)];exact q) (.inl (PyProof.noPylong_of_log2 (by omega)))
def NC:List V->Hp->VK->Prop:=λxs H Q=>(∃ x,xs=[.str x]/\Q (.str x) H)\/ ∃ i:Int,xs=[.int i]/\i.natAbs.log2 < 1920/\Q (.str (UI (toString i))) H
theorem CJ:aM X (.type "str") NC:=by
 intro pins s σ H xs us Q I r h;rcases h with⟨x,rfl,q⟩ | ⟨i,rfl,hi,q⟩
 . obtain⟨u,rfl,t,rfl⟩:=r.one;exact P.str_of_str ⟨.str x,H,I,⟨t,rfl⟩,q⟩
 . obtain⟨u,rfl,t,rfl⟩:=r.one;refine P.str_of_int hi ?_;exact⟨.str _,H,I.kept (t':=s.toks+1) (λb o e=>e),⟨_,rfl⟩,q⟩
theorem xu: ∀{ss:List Str}{aj:List UH},Vals (ss.map V.str) aj-> ∃ l:List (Str × Tok),aj=strValues l/\l.map (·.1)=ss
 | [],aj,h=>by cases h;exact⟨[],rfl,rfl⟩
 | x::r,aj,h=>by
  cases h with
  | cons a b =>
   obtain⟨t,rfl⟩:=a
   obtain⟨l,rfl,e⟩:=xu b
   exact⟨(x,t)::l,rfl,by rw[UP,e]⟩
def rJoin:V->List V->Hp->VK->Prop:=λx vs H Q=> ∃ a l ss,x= .str a/\vs=[.ref l]/\H l=fv (.lst (ss.map V.str))/\JoinOk a ss=true/\Q (.str (ZI a ss)) H
theorem DC:Di X "str.join" rJoin:=by
 intro pins s σ H x vs v us Q I rx rv h;obtain⟨a,l,ss,rfl,rfl,hH,hj,q⟩:=h;obtain⟨t,rfl⟩:=rx;obtain⟨u,rfl,ru⟩:=rv.one;cases ru;obtain⟨z,aj,n,r,hl,e⟩:=I.vB hH;obtain⟨ps,rfl,ep⟩:=xu r;exact SC.join (l:=ps) ⟨_,e,rfl,n,rfl⟩ ep hj λt' k=>⟨.str _,H,I.kept (t':=k) (λb o e=>e),⟨_,rfl⟩,q⟩
def Rr:V->List V->Hp->VK->Prop:=λx vs H Q=> ∃ l xs i y,x= .ref l/\vs=[.int i,y]/\H l=fv (.lst xs)/\0<=i/\i<=1000000/\xs.length < UK/\Q .non (upd H l (.lst (xs.take i.toNat++y::xs.drop i.toNat)))
theorem Vals.cut: ∀{xs:List V}{us:List UH}(n:Nat),Vals xs us->Vals (xs.take n) (us.take n)/\Vals (xs.drop n) (us.drop n)
 | xs,us,0,h=>⟨.nil,h⟩
 | _,_,n+1,.nil=>⟨.nil,.nil⟩
 | _,_,n+1,.cons a b=>by
  obtain⟨c,d⟩:=Vals.cut n b;exact⟨.cons a c,d⟩
theorem J5:Qm X "list.insert" Rr:=by
 intro pins s σ H x vs v us Q I rx rv h;obtain⟨l,xs,i,y,rfl,rfl,hH,i0,i9,hz,q⟩:=h;cases rx;obtain⟨u,w,rfl,⟨t,rfl⟩,rw⟩:=rv.two;obtain⟨z,aj,n,r,hl,e⟩:=I.vB hH;obtain⟨r1,r2⟩:=r.cut i.toNat;have hf: ¬ (!Builtin.List.listFitsIndex i)=true:=by
  have:Y1 i=true:=by unfold Y1;simp;omega
  rw[this];decide
 refine WA F.slot_list_insert ⟨_,e,rfl⟩ F.entry_list_insert (F.args_list_insert_3 _ _ _) (AutoListH.list_insert_list_int_val_1 l aj.toArray n i t w hf (by rw[Vb];omega)) ⟨e,?_⟩;refine⟨.non,_,I.Oh (its':=aj.take i.toNat++w::aj.drop i.toNat) (ys:=xs.take i.toNat++y::xs.drop i.toNat) hH e ?_ (r1.append (.cons rw r2)) ?_,rfl,q⟩
 . have hk:(if i < 0 then(i+((aj.toArray.size:Nat):Int)).toNat else min i.toNat aj.toArray.size)=min i.toNat aj.length:=by rw[if_neg (by omega),Vb]
   show(aj.toArray.extract 0 (if i < 0 then(i+((aj.toArray.size:Nat):Int)).toNat else min i.toNat aj.toArray.size)).push w++aj.toArray.extract (if i < 0 then(i+((aj.toArray.size:Nat):Int)).toNat else min i.toNat aj.toArray.size)=_;rw[hk];apply Array.ext';rcases YH i.toNat aj.length with c | c
   . simp[XU c,Y6,VW]
   . simp[Xt c,Y6,VW c,Wi c]
 . simp only[U5,UU,VT,W9];omega
end
end L2
namespace P3
open PySem PySem.Spec PyProof.Rows L2
section
variable{X:Cx}{pg:Tb}{k:Nat}
def ic:PV->PV->PH->RV PV:=p2 λi j=>if 0 < j/\j < 18446744073709551616 then FP (.int (i / j)) else .no
theorem FR:b6 X pg k-> ∃ r,cC X (VX .FloorDiv) r/\lW X.K r ic:=λ_=>⟨_,Bh,JB λi j v h e=>by
 split at e
 . rename_i c;cases e;exact⟨c,fun ρ H=>by rw[rel]⟩
 . cases e⟩
theorem zP{i j:Int}{h:PH}(hj:0 < j/\j < 18446744073709551616):ic (.int i) (.int j) h= .ok (.int (i / j)) h:=by unfold ic p2;simp[hj,FP,qJ]
theorem P1{i:Int}{h:PH}:BH [.int i] h= .ok (.int (if i < 0 then -i else i)) h:=(rfl)
noncomputable def lO:List PV->PH->RV PV:=λxs h=>match xs with
 | [.str x]=> .ok (.str x) h
 | [.int i]=>if i.natAbs.log2 < 1920 then .ok (.str (UI (toString i))) h else .no
 | _=> .no
theorem MK:b6 X pg k-> ∃ r,aM X (.type "str") r/\xH X.K r lO:=λA=>⟨_,CJ,fun ρ h H xs us Q v h' s r q P=>by
 unfold lO at q;split at q
 . cases q;obtain⟨u,rfl,r1⟩:=aT r;rw[rel] at r1;subst r1;exact .inl ⟨_,rfl,P _ ρ H (.refl _ _) s (by rw[rel])⟩
 . split at q
   . rename_i hi;cases q;obtain⟨u,rfl,r1⟩:=aT r;rw[rel] at r1;subst r1;exact .inr ⟨_,rfl,hi,P _ ρ H (.refl _ _) s (by rw[rel])⟩
   . cases q
 . cases q⟩
theorem CK{i:Int}{h:PH}(h0:0<=i)(h9:i<=1000000):lO [.int i] h= .ok (.str (UI (toString i))) h:=by
 refine if_pos ?_;by_cases z:i.natAbs=0
 . rw[z];decide
 . have:i.natAbs.log2 < 20:=(abJ z).mpr (by omega);omega
theorem uK{K:UC}{ρ :List U0}{H:Hp}: ∀{ss:List Str}{vs:List V},aq K ρ H (ss.map PV.str) vs->vs=ss.map V.str
 | [],vs,h=>by rw[VU,aq] at h;exact h
 | x::r,vs,h=>by
  rw[UP] at h;obtain⟨v,t,rfl,r1,r2⟩:=au.mp h;rw[rel] at r1;rw[r1,uK r2];rfl
theorem qx: ∀{xs:List PV}{ss:List Str},cz xs=fv ss->xs=ss.map PV.str
 | [],ss,e=>by cases e;rfl
 | x::r,ss,e=>by
  cases x<;>simp only[cz,reduceCtorEq] at e;rename_i a;cases q:cz r with
  | none=>rw[q] at e;cases e
  | some t =>
   rw[q] at e
   cases e
   rw[qx q];rfl
noncomputable def dy(x:PV)(_:PH):Bool:=match x with
 | .str _=>true
 | _=>false
theorem yW{K:UC}{ρ :List U0}{h:PH}{H:Hp}{x:PV}{v:V}(r:rel K ρ H x v)(e:dy x h=true):Pm K "str" v H:=by
 unfold dy at e;split at e
 . rw[rel] at r;subst r;exact rfl
 . cases e
def iF(x:PV)(vs:List PV)(h:PH):RV PV:=match x,vs with
 | .str a,[.ref n]=>(match h[n]? with
  | some (.lst xs)=>(match cz xs with
   | some ss=>if JoinOk a ss=true then .ok (.str (ZI a ss)) h else .no
   | none=> .no)
  | _=> .no)
 | _,_=> .no
theorem LC:b6 X pg k-> ∃ r,Di X "str.join" r/\MY X.K "str" r iF dy:=λA=>⟨_,DC,fun ρ h H x x' s r e=>yW r e,fun ρ h H x x' xs us Q v h' s rx rs q P=>by
 unfold iF at q;split at q
 . rename_i a n;split at q
   . rename_i ys en;split at q
     . rename_i ss es;split at q
       . rename_i hj;cases q;obtain rfl:=qx es;obtain⟨u,rfl,r1⟩:=aT rs;obtain⟨b,vs,rfl,ea,e1,e2⟩:=s.lst en r1;rw[rel] at rx;rw[uK e2] at e1;exact⟨a,b,ss,rx,rfl,e1,hj,P _ ρ H (.refl _ _) s (by rw[rel])⟩
       . cases q
     . cases q
   . cases q
 . cases q⟩
theorem qf: ∀ ss:List Str,cz (ss.map PV.str)=fv ss
 | []=>rfl
 | x::r=>by rw[UP,cz,qf r];rfl
theorem vy{a:Str}{n:Nat}{h:PH}{ss:List Str}(e:h[n]?=fv (.lst (ss.map PV.str)))(hj:JoinOk a ss=true):iF (.str a) [.ref n] h= .ok (.str (ZI a ss)) h:=by
 simp only[iF,e,qf,hj,if_true]
def qU(x:PV)(vs:List PV)(h:PH):RV PV:=match x,vs with
 | .ref n,[.int i,y]=>(match h[n]? with
  | some (.lst xs)=>if 0<=i/\i<=1000000/\xs.length < UK then .ok .non (h.set n (.lst (xs.take i.toNat++y::xs.drop i.toNat))) else .no
  | _=> .no)
 | _,_=> .no
theorem Qk:b6 X pg k-> ∃ r,Di X "list.insert" r/\MY X.K "list" r qU bM:=λA=>⟨_,J5,fun ρ h H x x' s r e=>mW s r e,fun ρ h H x x' xs us Q v h' s rx rs q P=>by
 unfold qU at q;split at q
 . rename_i n i y;split at q
   . rename_i ys en;split at q
     . rename_i c;cases q;obtain⟨b,vs,rfl,ea,e1,e2⟩:=s.lst en rx;obtain⟨u,t,rfl,r1,r2⟩:=au.mp rs;obtain⟨w,t2,rfl,r3,r4⟩:=au.mp r2;rw[aq] at r4;subst r4;rw[rel] at r1;subst r1;have g:Gr ρ H ρ (upd H b (.lst (vs.take i.toNat++w::vs.drop i.toNat))):=Gr.write (.inl ⟨_,e1⟩);have r5:aq X.K ρ H (ys.take i.toNat++y::ys.drop i.toNat) (vs.take i.toNat++w::vs.drop i.toNat):=(e2.take _).app (au.mpr ⟨_,_,rfl,r3,e2.drop _⟩);exact⟨b,vs,i,w,rfl,rfl,e1,c.1,c.2.1,by rw[<- e2.len];exact c.2.2,P _ ρ _ g (s.write en ea rfl rfl ⟨_,a9,aq.gr g _ _ r5⟩) (by rw[rel])⟩
     . cases q
   . cases q
 . cases q⟩
theorem Qe{n:Nat}{h:PH}{xs:List PV}{i:Int}{y:PV}(e:h[n]?=fv (.lst xs))(i0:0<=i)(i9:i<=1000000)(hl:xs.length < 16777216):qU (.ref n) [.int i,y] h= .ok .non (h.set n (.lst (xs.take i.toNat++y::xs.drop i.toNat))):=by
 simp only[qU,e];exact if_pos ⟨i0,i9,hl⟩
variable{d e1 e2:Vu}{md:ME}{mr:MA}{apos cpos:Pos}
theorem N7{name:Str}{id T:String}{f:PV->List PV->PH->RV PV}{ty:PV->PH->Bool}(pa:aaX T)(slot:Slot T name id)(hty:typeOf (.builtin id)=pure (.type "method_descriptor"))(hm:b6 X pg k-> ∃ r,Di X id r/\MY X.K T r f ty)
  (ho:JE X pg k d md) (ha:JA X pg k [e1,e2] mr) (hbase:Xj d name X.env (Wt d X.env)=Wt d X.env:=by rfl) (hline:(apos.endLine == cpos.line)=true:=by rfl)
  (hs:noStar e1=true:=by rfl) (hs2:noStar e2=true:=by rfl):JE X pg k (.Call (.Attribute d name apos) [e1,e2] [] cpos) (eM f ty md mr):=⟨λA=>by
 obtain⟨_,q0,s0⟩:=ho.h A;obtain⟨_,q1,s1⟩:=ha.h A;obtain⟨_,q,s⟩:=hm A;refine⟨_,⟨G5 pa slot hty q q0.h q1.h hbase (by rw[ba hs,ba hs2];rfl) hline (ba hs) (by rw[ba hs2];rfl)⟩,fun ρ h H e σ Q v h' z r q P=>?_⟩;obtain⟨x,h1,z1,q⟩:=bind_eq.mp q;refine s0 ρ h H e σ _ _ _ z r z1 λx' ρ1 H1 g1 w1 r1=>?_;split at q
 . rename_i ht;obtain⟨xs,h2,z2,q⟩:=bind_eq.mp q;refine⟨s.1 ρ1 h1 H1 x x' w1 r1 ht,?_⟩;exact s1 ρ1 h1 H1 e σ _ _ _ w1 (r.gr g1) z2 λus ρ2 H2 g2 w2 r2=>s.2 ρ2 h2 H2 x x' xs us Q v h' w2 (rel.gr g2 _ _ r1) r2 q (P.gr (g1.trans g2))
 . cases q⟩
end
end P3
end
section
open PySem PySem.W PyProof.Rows
set_option maxHeartbeats 5000000
namespace K84
open PySem L2 P3 PyProof.Rows
noncomputable def top(i:Nat):Stmt:=PySem.Challenge.pw_leastrecord_k84_looks_and_runs_as_texts.main.body.getD i (.Pass ⟨0,0,0,0⟩)
noncomputable def dH:List (Key × PV):=[(.inr "let",(.ktup [(.str "pocket"),(.str "sum")])),(.inr "leap",(.ktup [(.str "target"),(.str "sum")])),(.inr "get",(.ktup [(.str "pocket"),(.str "box")])),(.inr "put",(.ktup [(.str "box"),(.str "sum")])),(.inr "take",(.ktup [(.str "lock")])),(.inr "free",(.ktup [(.str "lock")])),(.inr "send",(.ktup [(.str "lane"),(.str "sum")])),(.inr "fetch",(.ktup [(.str "pocket"),(.str "lane")])),(.inr "say",(.ktup [(.str "door"),(.str "sum")])),(.inr "clock",(.ktup [(.str "pocket")])),(.inr "lot",(.ktup [(.str "pocket"),(.str "chances")])),(.inr "hear",(.ktup [(.str "pocket"),(.str "door")]))]
noncomputable def cF:List (Key × PV):=[(.inr "box",(.int 2)),(.inr "lock",(.int 3)),(.inr "lane",(.int 4)),(.inr "door",(.int 5))]
noncomputable def eJ:List (Key × PV):=[(.inr "get",(.str "box")),(.inr "put",(.str "box")),(.inr "take",(.str "lock")),(.inr "free",(.str "lock")),(.inr "send",(.str "lane")),(.inr "fetch",(.str "lane")),(.inr "say",(.str "door"))]
def oA :=
  (ar (yj (eB i7 (ab (aa 0) (ab (eC (.ty "int")) ah))) (Fy (eB i7 (ab (aa 0) (ab (eC (.ty "bool")) ah))))))
def gQ:Df:=⟨["thing"],0,oA⟩
def j7 :=
  (ar (yj (ae "is_whole" (a1 (aa 0))) (rf QY QY (aa 1) (aa 0) (aa 2))))
def eA:Df:=⟨["thing", "least", "most"],0,j7⟩
def oq :=
  (ar (ae "is_between" (a3 (aa 0) (eI 0) (eI 999))))
def gO:Df:=⟨["thing"],0,oq⟩
def ji :=
  (ar (yj (eB i7 (ab (aa 0) (ab (eC (.ty "tuple")) ah))) (ao ja (eB bH (a1 (aa 0))) (aa 1))))
def dA:Df:=⟨["thing", "many"],0,ji⟩
def j3 :=
  (ag (ai (eX 0 0) (gN 2))
  (ag (bB (mQ (aa 2) (eS "num")) (ar (eX 0 1)) bF)
  (ag (bB (mQ (aa 2) (eS "of")) (ar (Bt (eB xE (a1 (aa 1))) (eX 0 1) (eI 0))) bF)
  (ag (ai (ae "worth" (a2 (eX 0 1) (aa 1))) (gN 3))
  (ag (bB (mQ (aa 2) (eS "not")) (ar (vd (mQ (aa 3) (eI 0)) (eI 1) (eI 0))) bF)
  (ar (ae "joined_worth" (ab (aa 2) (ab (aa 3) (ab (ae "worth" (a2 (eX 0 2) (aa 1))) ah))))))))))
def gv:Df:=⟨["tree", "pockets"],2,j3⟩
def iC :=
  (ag (bB (mQ (aa 0) (eS "add")) (ar (ao gz (ao aL (aa 1) (aa 2)) (eI 1000))) bF)
  (ag (bB (mQ (aa 0) (eS "sub")) (ar (ao gz (ao w6 (aa 1) (aa 2)) (eI 1000))) bF)
  (ag (bB (mQ (aa 0) (eS "mul")) (ar (ao gz (ao cb (aa 1) (aa 2)) (eI 1000))) bF)
  (ag (bB (mQ (aa 0) (eS "less")) (ar (vd (aA (ao vc (aa 1) (aa 2))) (eI 1) (eI 0))) bF)
  (ar (vd (aA (ao ja (aa 1) (aa 2))) (eI 1) (eI 0)))))))
def cU:Df:=⟨["word", "one", "other"],0,iC⟩
def ju :=
  (ag (ai (ao aG (aa 0) (Rq (.ktup [(.str "box"),(.str "lock"),(.str "lane"),(.str "door"),(.str "hand")]) (a1 (aa 1)))) (gN 2))
  (ag (bB (zW (mQ (aa 1) (eS "box")) (mQ (aa 1) (eS "hand"))) (ar (jf 1 (my (aa 2)) (gN 3) aS (eX 3 0))) bF)
  (ar (eB xA (a1 (aa 2))))))
def eR:Df:=⟨["program", "sort"],1,ju⟩
def lI :=
  (ag (ai (ae "names_of" (a2 (aa 0) (aa 1))) (gN 3))
  (ar (vd (aA (ao j8 (aa 2) (aa 3))) (eM kg bM (aa 3) (a1 (aa 2))) (eC .non))))
def fA:Df:=⟨["program", "sort", "name"],1,lI⟩
def pY :=
  (ar (ao aG (ao aG (eX 0 4) (aa 1)) (eI 1)))
def iN:Df:=⟨["program", "hand"],0,pY⟩
def eO:MS :=
  (ar (vd (aA (u9 (fz false) (aa 0))) (eS "-") (eB lO (a1 (aa 0)))))
def bX:Df:=⟨["number"],0,eO⟩
def gF:MS :=
  (ar (eM iF dy (eS " ") (ab (aK (ab (eX 0 0) (ab (vd (mQ (eX 0 1) (eS "")) (eS "-") (eX 0 1)) (ab (ae "shown_number" (a1 (eX 0 2))) ah)))) ah)))
def c7:Df:=⟨["look"],0,gF⟩
def lJ:MS :=
  (ar (ae "shown_parts" (ab (eS " ") (ab (jf 1 (my (aa 1)) (gN 2) aS (ae "shown_step" (a2 (aa 0) (aa 2)))) ah))))
def fJ:Df:=⟨["program", "run"],0,lJ⟩
def fM:MS :=
  (ar (vd (aA (ao ja (aa 1) (aK ah))) (eS "-") (eM iF dy (aa 0) (a1 (aa 1)))))
def cx:Df:=⟨["between", "texts"],0,fM⟩
def gu:MS :=
  (ag (ai (ae "hand_name" (a2 (aa 0) (eX 1 0))) (gN 2))
  (ar (vd (aA (u9 (fz false) (eX 1 1))) (aa 2) (ao aL (ao aL (aa 2) (eS ":")) (eB lO (a1 (eX 1 1)))))))
def cY:Df:=⟨["program", "step"],1,gu⟩
def ly:MS :=
  (ar (ao aG (ae "names_of" (a2 (aa 0) (eS "hand"))) (aa 1)))
def fF:Df:=⟨["program", "hand"],0,ly⟩
def ko :=
  (ar (ae "rested" (ab (aa 0) (ab (aa 1) (ab (av (a3 (eI 0) (av ah) (av ah))) ah)))))
def ef:Df:=⟨["program", "hand"],0,ko⟩
def sY :=
  (ag (ai (ae "rows_of" (a2 (aa 0) (aa 1))) (gN 3))
  (ag (ai (aa 2) (gN 4))
  (ag (fZ (bf (a1 (eI 200))) (gN 5) (ag (bB (aA (ae "is_rested" (a2 (aa 3) (aa 4)))) (ar (aa 4)) bF)
  (ai (ae "behind_own_row" (ab (ao aG (aa 3) (eX 4 0)) (a1 (aa 4)))) (gN 4))))
  (ag (bB (aA (ae "is_rested" (a2 (aa 3) (aa 4)))) (ar (aa 4)) bF)
  (ar (av (ab (eB bH (a1 (aa 3))) (a2 (eX 4 1) (eX 4 2)))))))))
def kj:Df:=⟨["program", "hand", "seat"],3,sY⟩
def iu :=
  (ar (Nw (ao ja (eX 1 0) (eB bH (a1 (aa 0)))) (Fy (ae "is_own_row" (ab (ao aG (aa 0) (eX 1 0)) (a1 (eX 1 2)))))))
def dI:Df:=⟨["rows", "seat"],0,iu⟩
def jR :=
  (ag (bB (mQ (eX 0 0) (eS "take")) (ar (ao j8 (eX 0 1) (aa 1))) bF)
  (ag (bB (mQ (eX 0 0) (eS "free")) (ar (ao og (eX 0 1) (aa 1))) bF)
  (ar (Nw (ao ja (eX 0 0) (eS "let")) (ao ja (eX 0 0) (eS "leap"))))))
def dW:Df:=⟨["row", "held"],0,jR⟩
def bY :=
  (ag (ai (ao aL (eX 1 0) (eI 1)) (gN 2))
  (ag (bB (mQ (eX 0 0) (eS "let")) (ar (av (ab (aa 2) (ab (ae "laid" (ab (eX 1 1) (ab (eX 0 1) (ab (ae "worth" (a2 (eX 0 2) (eX 1 1))) ah)))) (a1 (eX 1 2)))))) bF)
  (ag (bB (lX (mQ (eX 0 0) (eS "leap")) (aA (ao g7 (ae "worth" (a2 (eX 0 2) (eX 1 1))) (eI 0)))) (ar (av (a3 (eX 0 1) (eX 1 1) (eX 1 2)))) bF)
  (ar (av (a3 (aa 2) (eX 1 1) (eX 1 2)))))))
def bq:Df:=⟨["row", "seat"],1,bY⟩
def vS :=
  (ag (ai (jf 1 (my (aa 0)) (gN 4) (aA (ao g7 (eX 4 0) (aa 1))) (aa 4)) (gN 3))
  (ag (bB (aA (ao g7 (aa 2) (eI 0))) (cI (eM bw bM (aa 3) (ab (av (a2 (aa 1) (aa 2))) ah))) bF)
  (ar (eB aY (ab (eB dG (a1 (aa 3))) ah)))))
def m8:Df:=⟨["pockets", "name", "value"],1,vS⟩
def jy :=
  (ag (ai (ae "rows_of" (a2 (aa 0) (aa 1))) (gN 3))
  (ag (bB (aA (ao ja (eX 2 0) (eB bH (a1 (aa 3))))) (ar (eC .non)) bF)
  (ag (ai (ao aG (aa 3) (eX 2 0)) (gN 4))
  (ag (ai (eS "") (gN 5))
  (ag (ai (eC .non) (gN 6))
  (ag (fZ (Lq (qa dH (eX 4 0)) (ph (aa 4) (bS (eI 1)) de)) (gT 2 (aI (gN 7) (aI (gN 8) cZ))) (bB (mQ (aa 7) (eS "sum")) (ai (ae "worth" (a2 (aa 8) (eX 2 1))) (gN 6)) (bB (mQ (aa 7) (eS "chances")) (ai (aa 8) (gN 6)) (bB (aA (ao g7 (aa 7) (eS "pocket"))) (ai (aa 8) (gN 5)) bF))))
  (ar (av (a3 (eX 4 0) (aa 5) (aa 6))))))))))
def eG:Df:=⟨["program", "hand", "seat"],6,jy⟩
def cy :=
  (ag (ai (ao aG (ae "rows_of" (a2 (aa 0) (aa 1))) (eX 2 0)) (gN 4))
  (ag (ai (eX 2 1) (gN 5))
  (ag (ai (eX 2 2) (gN 6))
  (ag (bB (aA (ao j8 (eX 4 0) (eC (.ktup [(.str "get"),(.str "fetch"),(.str "clock"),(.str "lot"),(.str "hear")])))) (ai (ae "laid" (a3 (aa 5) (eX 4 1) (aa 3))) (gN 5)) (bB (mQ (eX 4 0) (eS "take")) (ai (eB aY (ab (eB dG (ab (ao aL (aa 6) (av (a1 (eX 4 1)))) ah)) ah)) (gN 6)) (bB (mQ (eX 4 0) (eS "free")) (ai (eB aY (ab (jf 1 (my (aa 6)) (gN 7) (aA (ao g7 (aa 7) (eX 4 1))) (aa 7)) ah)) (gN 6)) bF)))
  (ar (ae "rested" (ab (aa 0) (ab (aa 1) (ab (av (ab (ao aL (eX 2 0) (eI 1)) (a2 (aa 5) (aa 6)))) ah)))))))))
def bE:Df:=⟨["program", "hand", "seat", "value"],3,cy⟩
def js :=
  (ar (yj (ae "is_value" (a1 (aa 1))) (Nw (ao g7 (eX 0 0) (eS "lot")) (ao vc (aa 1) (eX 0 2)))))
def fh:Df:=⟨["touch", "value"],0,js⟩
def jc :=
  (ag (ai (ae "hands_of" (a1 (aa 0))) (gN 1))
  (ar (av (ab (eB aY (ab (jf 1 (my (aa 1)) (gN 2) aS (eI 0)) ah)) (ab (eB aY (ab (jf 1 (my (aa 1)) (gN 2) aS (ae "first_seat" (a2 (aa 0) (aa 2)))) ah)) (ab (eB aY (ab (jf 1 (my (eX 0 0)) (gN 2) aS (av (a2 (eX 2 1) (eC .non)))) ah)) (ab (eB aY (ab (jf 1 (my (eX 0 1)) (gN 2) aS (av (a2 (eC .non) (eC .non)))) ah)) (ab (eB aY (ab (jf 1 (my (eX 0 2)) (gN 2) aS (av (a3 (eI 0) (eI 0) (av ah)))) ah)) (ab (eB aY (ab (jf 1 (my (eX 0 3)) (gN 2) aS (eI 0)) ah)) ah)))))))))
def dF:Df:=⟨["program"],1,jc⟩
def jB :=
  (ar (R3 (ab (eB bH (a1 (eX 0 4))) ah)))
def eZ:Df:=⟨["program"],0,jB⟩
def oM :=
  (ar (ao aG (ao aG (aa 1) (qa cF (aa 2))) (ae "number_of" (a3 (aa 0) (aa 2) (aa 3)))))
def gG:Df:=⟨["program", "stand", "sort", "name"],0,oM⟩
def dj :=
  (ag (ai (ae "touch_of" (ab (aa 0) (ab (aa 2) (ab (ao aG (eX 1 1) (aa 2)) ah)))) (gN 3))
  (ag (bB (aA (u9 (fz false) (aa 3))) (ar (eS "end")) bF)
  (ag (bB (mQ (eX 3 0) (eS "take")) (ag (ai (ao aG (ae "state_of" (ab (aa 0) (a3 (aa 1) (eS "lock") (eX 3 1)))) (eI 0)) (gN 4))
  (ar (vd (aA (u9 (fz false) (aa 4))) (eC .non) (av (a3 (eS "lock") (eX 3 1) (aa 4)))))) bF)
  (ag (bB (lX (mQ (eX 3 0) (eS "fetch")) (aA (ao ja (ao aG (ae "state_of" (ab (aa 0) (a3 (aa 1) (eS "lane") (eX 3 1)))) (eI 2)) (av ah)))) (ar (av (a2 (eS "letter") (eX 3 1)))) bF)
  (ar (eC .non))))))
def bZ:Df:=⟨["program", "stand", "hand"],2,dj⟩
def xf:MS :=
  (ar (eB aY (ab (jf 1 (my (ae "hands_of" (a1 (aa 0)))) (gN 2) aS (ae "wait_of" (a3 (aa 0) (aa 1) (aa 2)))) ah)))
def mG:Df:=⟨["program", "stand"],0,xf⟩
def ui:MS :=
  (ar (jf 2 (xU (ae "waits" (a2 (aa 0) (aa 1)))) (gT 2 (aI (gN 2) (aI (gN 3) cZ))) (aA (u9 (fz false) (aa 3))) (aa 2)))
def j0:Df:=⟨["program", "stand"],0,ui⟩
def vg :=
  (ag (ai (ae "due_touch" (ab (aa 0) (a3 (aa 1) (aa 2) (aa 3)))) (gN 4))
  (ag (ai (eX 4 0) (gN 5))
  (ag (ai (eX 4 1) (gN 6))
  (ag (bB (aA (ao j8 (aa 5) (eC (.ktup [(.str "clock"),(.str "lot"),(.str "hear")])))) (ar (av (ab (ae "with_hand_on" (ab (aa 0) (a3 (aa 1) (aa 2) (aa 3)))) (ab (av (ab (aa 5) (a3 (aa 6) (aa 3) (eC .non)))) ah)))) bF)
  (ag (ai (qa eJ (aa 5)) (gN 7))
  (ag (ai (ae "meeting" (ab (aa 4) (ab (av (ab (aa 2) (ab (ao aG (eX 1 0) (aa 2)) ah))) (ab (ae "state_of" (ab (aa 0) (a3 (aa 1) (aa 7) (aa 6)))) ah)))) (gN 8))
  (ag (ai (ae "with_state" (ab (aa 0) (ab (aa 1) (a3 (aa 7) (aa 6) (eX 8 2))))) (gN 9))
  (ar (av (ab (ae "with_hand_on" (ab (aa 0) (a3 (aa 9) (aa 2) (eX 8 0)))) (ab (av (ab (aa 5) (a3 (aa 6) (eX 8 0) (eX 8 1)))) ah)))))))))))
def nj:Df:=⟨["program", "stand", "hand", "gift"],6,vg⟩
def lN :=
  (ag (bB (kK (aA (ae "is_between" (ab (aa 2) (ab (eI 0) (ab (ao w6 (eB bH (a1 (eX 0 4))) (eI 1)) ah)))))) ie bF)
  (ag (ai (ae "wait_of" (a3 (aa 0) (aa 1) (aa 2))) (gN 4))
  (ag (bB (mQ (aa 4) (eS "end")) ie bF)
  (ag (bB (aA (u9 (fz true) (aa 4))) ie bF)
  (ag (ai (ae "touch_of" (ab (aa 0) (ab (aa 2) (ab (ao aG (eX 1 1) (aa 2)) ah)))) (gN 5))
  (ag (bB (kK (aA (ae "takes_gift" (a2 (aa 5) (aa 3))))) ie bF)
  (ar (aa 5))))))))
def fI:Df:=⟨["program", "stand", "hand", "gift"],2,lN⟩
def gJ :=
  (ar (vd (aA (ao j8 (eX 0 0) (eC (.ktup [(.str "clock"),(.str "lot"),(.str "hear")])))) (ae "may_come" (a2 (aa 0) (aa 1))) (u9 (fz false) (aa 1))))
def cP:Df:=⟨["touch", "gift"],0,gJ⟩
def cJ :=
  (ag (ai (eX 0 0) (gN 3))
  (ag (ai (eX 0 2) (gN 4))
  (ag (bB (mQ (aa 3) (eS "get")) (ar (av (a3 (eX 2 0) (eX 2 1) (aa 2)))) bF)
  (ag (bB (mQ (aa 3) (eS "put")) (ar (av (ab (aa 4) (ab (eX 2 1) (ab (av (a2 (aa 4) (aa 1))) ah))))) bF)
  (ag (bB (mQ (aa 3) (eS "take")) (ar (av (ab (eC .non) (ab (eX 2 1) (ab (av (a2 (eX 1 0) (eX 2 1))) ah))))) bF)
  (ag (bB (mQ (aa 3) (eS "free")) (ar (av (ab (eC .non) (ab (eC .non) (ab (av (a2 (eC .non) (aa 1))) ah))))) bF)
  (ag (bB (mQ (aa 3) (eS "send")) (ar (av (ab (aa 4) (ab (eX 2 0) (ab (av (ab (ao aL (eX 2 0) (eI 1)) (ab (eX 2 1) (ab (ao aL (eX 2 2) (av (a1 (aa 4)))) ah)))) ah))))) bF)
  (ag (bB (mQ (aa 3) (eS "fetch")) (ar (av (ab (ao aG (eX 2 2) (eI 0)) (ab (eX 2 1) (ab (av (ab (eX 2 0) (ab (ao aL (eX 2 1) (eI 1)) (ab (ph (eX 2 2) (bS (eI 1)) de) ah)))) ah))))) bF)
  (ar (av (ab (aa 4) (ab (aa 2) (ab (ao aL (aa 2) (eI 1)) ah)))))))))))))
def bQ:Df:=⟨["touch", "event", "state"],2,cJ⟩
def ip :=
  (ag (ai (ae "seat_behind" (ab (aa 0) (ab (aa 2) (ab (ao aG (eX 1 1) (aa 2)) (a1 (aa 3)))))) (gN 4))
  (ag (ai (ae "replaced" (ab (aa 1) (ab (eI 0) (ab (ae "replaced" (ab (eX 1 0) (ab (aa 2) (ab (ao aL (ao aG (eX 1 0) (aa 2)) (eI 1)) ah)))) ah)))) (gN 5))
  (ar (ae "replaced" (ab (aa 5) (ab (eI 1) (ab (ae "replaced" (a3 (eX 1 1) (aa 2) (aa 4))) ah)))))))
def cT:Df:=⟨["program", "stand", "hand", "value"],2,ip⟩
def jL :=
  (ag (ai (qa cF (aa 2)) (gN 5))
  (ar (ae "replaced" (ab (aa 1) (ab (aa 5) (ab (ae "replaced" (ab (ao aG (aa 1) (aa 5)) (ab (ae "number_of" (a3 (aa 0) (aa 2) (aa 3))) (a1 (aa 4))))) ah))))))
def dX:Df:=⟨["program", "stand", "sort", "name", "state"],1,jL⟩
def nQ :=
  (ar (ao aL (ao aL (ph (aa 0) de (bS (aa 1))) (av (a1 (aa 2)))) (ph (aa 0) (bS (ao aL (aa 1) (eI 1))) de)))
def gC:Df:=⟨["parts", "place", "part"],0,nQ⟩
def uF :=
  (ag (bB (zW (kK (aA (eB i7 (ab (aa 2) (ab (eC (.ty "tuple")) ah))))) (aA (ao L8 (eB bH (a1 (aa 2))) (eI 60)))) ie bF)
  (ag (ai (aa 1) (gN 3))
  (ag (ai (aK ah) (gN 4))
  (ag (fZ (xU (aa 2)) (gT 2 (aI (gN 5) (aI (gN 6) cZ))) (ag (bB (kK (aA (ae "is_tuple_of" (a2 (aa 6) (eI 2))))) ie bF)
  (ag (ai (ae "stepped" (ab (aa 0) (a3 (aa 3) (aa 5) (aa 6)))) (gN 7))
  (ag (ai (eX 7 0) (gN 3))
  (cI (eM bw bM (aa 4) (ab (av (a2 (eX 6 0) (eX 7 1))) ah)))))))
  (ar (av (ab (aa 3) (ab (eB aY (a1 (aa 4))) ah))))))))
def jJ:Df:=⟨["program", "stand", "run"],5,uF⟩
def qr :=
  (ar (ae "gone" (ab (aa 0) (a3 (aa 1) (eX 3 0) (eX 3 1)))))
def iS:Df:=⟨["program", "stand", "place", "step"],1,qr⟩
def lR:MS :=
  (ar (aK (ab (aa 0) (a3 (eI 0) (eI 0) (eI 0)))))
def fE:Df:=⟨["_law_script"],0,lR⟩
def iG:MS :=
  (ag (ai (eX 0 0) (gN 2))
  (ag (pI mS (aa 0) (eI 1) (ao aL (eX 0 1) (eI 1)))
  (ag (bB (lX (mQ (eX 0 2) (eI 0)) (aA (ao vc (eX 0 3) (eB bH (a1 (aa 2)))))) (ag (pI mS (aa 0) (eI 2) (ao ic (eB BH (ab (ao aG (aa 2) (eX 0 3)) ah)) (ao Dc (eI 10) (eI 18))))
  (pI mS (aa 0) (eI 3) (ao aL (eX 0 3) (eI 1)))) bF)
  (ag (bB (aA (ao L8 (eX 0 2) (eI 0))) (ag (ai (ao gz (eX 0 2) (aa 1)) (gN 3))
  (ag (pI mS (aa 0) (eI 2) (ao ic (eX 0 2) (aa 1)))
  (ar (aa 3)))) bF)
  (ag (ai (eI 0) (gN 4))
  (ag (bB (aA (ao L8 (eB bH (a1 (aa 2))) (eI 0))) (ai (ao aG (aa 2) (ao gz (eX 0 1) (eB bH (a1 (aa 2))))) (gN 4)) bF)
  (ag (ai (ao gz (ao aL (ao aL (ao cb (ao gz (aa 4) (eI 2147483647)) (eI 48271)) (ao cb (eX 0 1) (eI 7919))) (eI 12345)) (eI 2147483629)) (gN 5))
  (ag (ai (ao gz (ao cb (aa 5) (ao aL (aa 5) (eI 40692))) (eI 2147483587)) (gN 5))
  (ar (ao gz (ao gz (ao cb (aa 5) (eI 16807)) (eI 2147483563)) (aa 1)))))))))))
def dO:Df:=⟨["_law_tape_here", "_law_many"],4,iG⟩
def ka:MS :=
  (ag (ai (aK (ab (eS "a") (ab (eS "ab") (ab (eS "abc") (ab (eS "b") (ab (eS "ba") (ab (eS "taker") (ab (eS "boxa") (ab (eS "sendx") (ab (eS "abcdefgh") (ab (eS "handy") (ab (eS "c") (a3 (eS "lotb") (eS "z") (eS "freely")))))))))))))) (gN 2))
  (ag (ai (ao aL (aa 2) (aK (ab (eS "gets") (ab (eS "putx") (ab (eS "getter") (ab (eS "sends") (ab (eS "abcd") (ab (eS "y") (ab (eS "ya") (a3 (eS "lotus") (eS "doors") (eS "handle"))))))))))) (gN 2))
  (ag (ai (ae "_law_draw" (a2 (aa 0) (eI 24))) (gN 3))
  (ag (ai (ao aG (aK (ab (eI 1) (a3 (eI 5) (eI 7) (eI 11)))) (ae "_law_draw" (a2 (aa 0) (eI 4)))) (gN 4))
  (ar (jf 1 (bf (a1 (aa 1))) (gN 5) aS (ao aG (aa 2) (ao gz (ao aL (aa 3) (ao cb (aa 4) (aa 5))) (eI 24)))))))))
def gH:Df:=⟨["_law_tape_here", "_law_many"],3,ka⟩
def jj:MS :=
  (ar (ao aG (ao aG (aa 1) (eS "pockets")) (ae "_law_draw" (ab (aa 0) (ab (eB bH (ab (ao aG (aa 1) (eS "pockets")) ah)) ah)))))
def dB:Df:=⟨["_law_tape_here", "_law_kit"],0,jj⟩
def fc:MS :=
  (ag (ai (ae "_law_draw" (a2 (aa 0) (eI 8))) (gN 3))
  (ag (bB (zW (mQ (aa 2) (eI 0)) (aA (ao vc (aa 3) (eI 4)))) (ag (bB (aA (ao ja (ao gz (aa 3) (eI 2)) (eI 0))) (ar (av (ab (eS "of") (ab (ae "_law_pocket" (a2 (aa 0) (aa 1))) ah)))) bF)
  (ar (av (ab (eS "num") (ab (ao aG (aK (ab (ae "_law_draw" (a2 (aa 0) (eI 4))) (ab (ae "_law_draw" (a2 (aa 0) (eI 1000))) ah))) (eB uB (ab (ao ja (ae "_law_draw" (a2 (aa 0) (eI 5))) (eI 0)) ah))) ah))))) bF)
  (ag (bB (mQ (aa 3) (eI 4)) (ar (av (ab (eS "not") (ab (ae "_law_sum" (ab (aa 0) (ab (aa 1) (ab (ao w6 (aa 2) (eI 1)) ah)))) ah)))) bF)
  (ag (ai (ao aG (aK (ab (eS "add") (ab (eS "sub") (a3 (eS "mul") (eS "less") (eS "same"))))) (ae "_law_draw" (a2 (aa 0) (eI 5)))) (gN 4))
  (ag (ai (ae "_law_sum" (ab (aa 0) (ab (aa 1) (ab (ao w6 (aa 2) (eI 1)) ah)))) (gN 5))
  (ar (av (ab (aa 4) (ab (aa 5) (ab (ae "_law_sum" (ab (aa 0) (ab (aa 1) (ab (ao w6 (aa 2) (eI 1)) ah)))) ah))))))))))
def cD:Df:=⟨["_law_tape_here", "_law_kit", "_law_deep"],3,fc⟩
def fN:MS :=
  (ag (ai (ao aG (ao aG (aa 1) (eS "boxes")) (ae "_law_draw" (ab (aa 0) (ab (eB bH (ab (ao aG (aa 1) (eS "boxes")) ah)) ah)))) (gN 2))
  (ag (bB (aA (ao ja (ae "_law_draw" (a2 (aa 0) (eI 2))) (eI 0))) (ar (av (ab (eS "get") (ab (ae "_law_pocket" (a2 (aa 0) (aa 1))) (a1 (aa 2)))))) bF)
  (ar (av (ab (eS "put") (ab (aa 2) (ab (ae "_law_sum" (a3 (aa 0) (aa 1) (eI 2))) ah)))))))
def cw:Df:=⟨["_law_tape_here", "_law_kit"],1,fN⟩
def iA:MS :=
  (ag (ai (ao aG (ao aG (aa 1) (eS "locks")) (ae "_law_draw" (ab (aa 0) (ab (eB bH (ab (ao aG (aa 1) (eS "locks")) ah)) ah)))) (gN 2))
  (ag (ai (ao aL (aK (ab (av (a2 (eS "take") (aa 2))) ah)) (jf 1 (bf (ab (ae "_law_draw" (a2 (aa 0) (eI 3))) ah)) (gN 4) aS (ae "_law_at_box" (a2 (aa 0) (aa 1))))) (gN 3))
  (ar (ao aL (aa 3) (ao cb (aK (ab (av (a2 (eS "free") (aa 2))) ah)) (eB uB (ab (ao L8 (ae "_law_draw" (a2 (aa 0) (eI 6))) (eI 0)) ah)))))))
def cQ:Df:=⟨["_law_tape_here", "_law_kit"],2,iA⟩
def jK:MS :=
  (ag (ai (ae "_law_draw" (a2 (aa 0) (eI 12))) (gN 2))
  (ag (bB (aA (ao vc (aa 2) (eI 4))) (ar (aK (ab (ae "_law_at_box" (a2 (aa 0) (aa 1))) ah))) bF)
  (ag (bB (lX (aA (ao vc (aa 2) (eI 6))) (aA (ao g7 (ao aG (aa 1) (eS "locks")) (aK ah)))) (ar (ae "_law_by_lock" (a2 (aa 0) (aa 1)))) bF)
  (ag (bB (lX (aA (ao vc (aa 2) (eI 8))) (aA (ao g7 (ao aG (aa 1) (eS "lanes")) (aK ah)))) (ag (ai (ao aG (ao aG (aa 1) (eS "lanes")) (ae "_law_draw" (ab (aa 0) (ab (eB bH (ab (ao aG (aa 1) (eS "lanes")) ah)) ah)))) (gN 3))
  (ag (bB (aA (ao vc (ae "_law_draw" (a2 (aa 0) (eI 5))) (eI 3))) (ar (aK (ab (av (ab (eS "send") (ab (aa 3) (ab (ae "_law_sum" (a3 (aa 0) (aa 1) (eI 1))) ah)))) ah))) bF)
  (ar (aK (ab (av (ab (eS "fetch") (ab (ae "_law_pocket" (a2 (aa 0) (aa 1))) (a1 (aa 3))))) ah))))) bF)
  (ag (bB (lX (mQ (aa 2) (eI 8)) (aA (ao g7 (ao aG (aa 1) (eS "doors")) (aK ah)))) (ag (ai (ao aG (ao aG (aa 1) (eS "doors")) (ae "_law_draw" (ab (aa 0) (ab (eB bH (ab (ao aG (aa 1) (eS "doors")) ah)) ah)))) (gN 4))
  (ar (aK (ab (ao aG (aK (ab (av (ab (eS "say") (ab (aa 4) (ab (ae "_law_sum" (a3 (aa 0) (aa 1) (eI 1))) ah)))) (ab (av (ab (eS "hear") (ab (ae "_law_pocket" (a2 (aa 0) (aa 1))) (a1 (aa 4))))) ah))) (ae "_law_draw" (a2 (aa 0) (eI 2)))) ah)))) bF)
  (ag (bB (mQ (aa 2) (eI 9)) (ar (aK (ab (av (ab (eS "clock") (ab (ae "_law_pocket" (a2 (aa 0) (aa 1))) ah))) ah))) bF)
  (ag (bB (mQ (aa 2) (eI 10)) (ar (aK (ab (av (ab (eS "lot") (ab (ae "_law_pocket" (a2 (aa 0) (aa 1))) (ab (ao aG (aK (a3 (eI 2) (eI 3) (eI 1000))) (ae "_law_draw" (a2 (aa 0) (eI 3)))) ah)))) ah))) bF)
  (ar (aK (ab (av (ab (eS "let") (ab (ae "_law_pocket" (a2 (aa 0) (aa 1))) (ab (ae "_law_sum" (a3 (aa 0) (aa 1) (eI 2))) ah)))) ah))))))))))
def gy:Df:=⟨["_law_tape_here", "_law_kit"],3,jK⟩
def lF:MS :=
  (ag (ai (aK ah) (gN 2))
  (ag (fZ (bf (ab (ao aL (eI 1) (ae "_law_draw" (a2 (aa 0) (eI 5)))) ah)) (gN 3) (ai (ao aL (aa 2) (ae "_law_piece" (a2 (aa 0) (aa 1)))) (gN 2)))
  (ag (fZ (bf (ab (ao ic (ae "_law_draw" (a2 (aa 0) (eI 5))) (eI 2)) ah)) (gN 3) (ag (ai (ae "_law_draw" (ab (aa 0) (ab (ao aL (eB bH (a1 (aa 2))) (eI 2)) ah))) (gN 4))
  (cI (eM qU bM (aa 2) (ab (ae "_law_draw" (ab (aa 0) (ab (ao aL (eB bH (a1 (aa 2))) (eI 1)) ah))) (ab (av (ab (eS "leap") (ab (aa 4) (ab (ae "_law_sum" (a3 (aa 0) (aa 1) (eI 1))) ah)))) ah))))))
  (ar (eB aY (a1 (aa 2)))))))
def iB:Df:=⟨["_law_tape_here", "_law_kit"],3,lF⟩
def hJ:MS :=
  (ag (ai (aK (ab (ao aG (aK (ab (eI 1) (ab (eI 1) (ab (eI 1) (a3 (eI 2) (eI 2) (eI 4)))))) (ae "_law_draw" (a2 (aa 0) (eI 6)))) ah)) (gN 1))
  (ag (fZ (bf (a1 (eI 3))) (gN 2) (cI (eM bw bM (aa 1) (ab (ao aG (aK (ab (eI 0) (ab (eI 1) (ab (eI 1) (a3 (eI 1) (eI 2) (eI 4)))))) (ae "_law_draw" (a2 (aa 0) (eI 6)))) ah))))
  (ag (cI (eM bw bM (aa 1) (ab (ao aG (aK (ab (eI 1) (ab (eI 2) (ab (eI 2) (a3 (eI 3) (eI 3) (eI 4)))))) (ae "_law_draw" (a2 (aa 0) (eI 6)))) ah)))
  (ag (ai (ae "_law_names" (ab (aa 0) (ab (eB kn (a1 (aa 1))) ah))) (gN 3))
  (ag (ai (aK ah) (gN 4))
  (ag (fZ (bf (a1 (eI 5))) (gN 2) (cI (eM bw bM (aa 4) (ab (ph (aa 3) (bS (eB kn (ab (ph (aa 1) de (bS (aa 2))) ah))) (bS (eB kn (ab (ph (aa 1) de (bS (ao aL (aa 2) (eI 1)))) ah)))) ah))))
  (ag (ai (xR (jh (eS "boxes") (eX 4 0) (jh (eS "locks") (eX 4 1) (jh (eS "lanes") (eX 4 2) (jh (eS "doors") (eX 4 3) EV))))) (gN 5))
  (ag (pI mS (aa 5) (eS "pockets") (aK (ab (eS "p") (ab (eS "q") (ab (ao aG (aa 3) (ae "_law_draw" (ab (aa 0) (ab (eB bH (a1 (aa 3))) ah)))) ah)))))
  (ag (ai (eB aY (ab (jf 1 (my (eX 4 0)) (gN 8) aS (av (ab (aa 8) (ab (ae "_law_draw" (a2 (aa 0) (eI 3))) ah)))) ah)) (gN 6))
  (ag (ai (eB aY (ab (jf 1 (my (eX 4 4)) (gN 8) aS (av (ab (aa 8) (ab (ae "_law_rows" (a2 (aa 0) (aa 5))) ah)))) ah)) (gN 7))
  (ar (av (ab (aa 6) (ab (eB aY (a1 (eX 4 1))) (ab (eB aY (a1 (eX 4 2))) (ab (eB aY (a1 (eX 4 3))) (a1 (aa 7))))))))))))))))))
def fq:Df:=⟨["_law_tape_here"],7,hJ⟩
def fL:MS :=
  (ag (ai (ae "touch_of" (ab (aa 1) (ab (aa 3) (ab (ao aG (eX 2 1) (aa 3)) ah)))) (gT 3 (aI (gN 4) (aI (gN 5) (aI (gN 6) cZ)))))
  (ag (bB (mQ (aa 4) (eS "lot")) (ar (ae "_law_draw" (a2 (aa 0) (aa 6)))) bF)
  (ag (bB (aA (ao j8 (aa 4) (av (a2 (eS "clock") (eS "hear"))))) (ar (ao aG (aK (ab (ae "_law_draw" (a2 (aa 0) (eI 3))) (ab (ae "_law_draw" (a2 (aa 0) (eI 1000))) ah))) (eB uB (ab (ao ja (ae "_law_draw" (a2 (aa 0) (eI 3))) (eI 0)) ah)))) bF)
  (ar (eC .non)))))
def cL:Df:=⟨["_law_tape_here", "_law_program_here", "_law_stand", "_law_hand"],3,fL⟩
def mK:MS :=
  (ag (ai (aK ah) (gN 4))
  (ag (fZ (bf (a1 (aa 3))) (gN 5) (ag (ai (ae "can_go" (a2 (aa 1) (aa 2))) (gN 6))
  (bB (aA (ao g7 (aa 6) (aK ah))) (ag (ai (ao aG (aa 6) (ae "_law_draw" (ab (aa 0) (ab (eB bH (a1 (aa 6))) ah)))) (gN 7))
  (ag (ai (ae "_law_gift" (ab (aa 0) (a3 (aa 1) (aa 2) (aa 7)))) (gN 8))
  (ag (cI (eM bw bM (aa 4) (ab (av (a2 (aa 7) (aa 8))) ah)))
  (ai (ao aG (ae "gone" (ab (aa 1) (a3 (aa 2) (aa 7) (aa 8)))) (eI 0)) (gN 2))))) bF)))
  (ar (av (ab (eB aY (a1 (aa 4))) (a1 (aa 2)))))))
def gD:Df:=⟨["_law_tape_here", "_law_program_here", "_law_stand", "_law_most"],5,mK⟩
def jM:MS :=
  (ag (ai (ae "_law_program" (a1 (aa 0))) (gN 1))
  (ag (ai (ae "first_stand" (a1 (aa 1))) (gN 2))
  (ag (bB (aA (ao ja (ae "_law_draw" (a2 (aa 0) (eI 3))) (eI 0))) (ai (ao aG (ae "_law_run" (ab (aa 0) (ab (aa 1) (ab (aa 2) (ab (ao aL (eI 1) (ae "_law_draw" (a2 (aa 0) (eI 6)))) ah))))) (eI 1)) (gN 2)) bF)
  (ar (av (ab (aa 1) (ab (aa 2) (ab (ao aG (ae "_law_run" (ab (aa 0) (ab (aa 1) (ab (aa 2) (ab (ao aG (aK (ab (eI 3) (ab (eI 6) (a3 (eI 9) (eI 14) (eI 24))))) (ae "_law_draw" (a2 (aa 0) (eI 5)))) ah))))) (eI 0)) ah))))))))
def dY:Df:=⟨["_law_tape_here"],2,jM⟩
def iE:MS :=
  (ar (vd (aA (u9 (fz false) (aa 0))) (eS "-") (eB lO (a1 (aa 0)))))
def dP:Df:=⟨["_law_value"],0,iE⟩
def dt:MS :=
  (ar (eM iF dy (eS " ") (ab (aK (ab (eX 0 0) (ab (ao aG (aK (a2 (eX 0 1) (eS "-"))) (eB uB (ab (ao ja (eX 0 1) (eS "")) ah))) (ab (ae "_law_word" (a1 (eX 0 2))) ah)))) ah)))
def bJ:Df:=⟨["_law_look_here"],0,dt⟩
def dS:MS :=
  (ag (ai (aK ah) (gN 2))
  (ag (fZ (my (aa 1)) (gT 2 (aI (gN 3) (aI (gN 4) cZ))) (cI (eM bw bM (aa 2) (ab (ao aL (ao aG (ao aG (eX 0 4) (aa 3)) (eI 0)) (vd (aA (u9 (fz false) (aa 4))) (eS "") (ao aL (eS ":") (eB lO (a1 (aa 4)))))) ah))))
  (ar (vd (aA (ao g7 (aa 2) (aK ah))) (eM iF dy (eS " ") (a1 (aa 2))) (eS "-")))))
def bN:Df:=⟨["_law_program_here", "_law_run_here"],3,dS⟩
def lP:MS :=
  (ag (ai (aK (ab (eS "get") (ab (eS "put") (ab (eS "take") (ab (eS "free") (ab (eS "send") (ab (eS "fetch") (ab (eS "say") (a3 (eS "clock") (eS "lot") (eS "hear")))))))))) (gN 2))
  (ag (ai (ao aG (aa 2) (ae "_law_draw" (a2 (aa 0) (eI 10)))) (gN 3))
  (ag (ai (ao aG (aK (ab (ao aG (ao aG (eX 1 0) (eI 0)) (eI 0)) (a3 (eS "a") (eS "z") (eS "abcdefgh")))) (ae "_law_draw" (a2 (aa 0) (eI 4)))) (gN 4))
  (ag (ai (ao aG (aK (ab (eI 0) (ab (eI 1) (ab (eI 999) (ab (ae "_law_draw" (a2 (aa 0) (eI 1000))) ah))))) (ae "_law_draw" (a2 (aa 0) (eI 4)))) (gN 5))
  (ag (ai (ao aG (aK (ab (eC .non) (ab (av (a2 (eI 0) (eI 3))) ah))) (ae "_law_draw" (a2 (aa 0) (eI 2)))) (gN 6))
  (ag (bB (aA (ao j8 (aa 3) (av (a2 (eS "clock") (eS "lot"))))) (ai (eS "") (gN 4)) bF)
  (ag (bB (aA (ao j8 (aa 3) (av (a2 (eS "take") (eS "free"))))) (ai (eC .non) (gN 5)) bF)
  (ag (bB (aA (ao j8 (aa 3) (av (ab (eS "free") (a3 (eS "clock") (eS "lot") (eS "hear")))))) (ai (eC .non) (gN 6)) bF)
  (ag (bB (aA (ao j8 (aa 3) (av (a3 (eS "send") (eS "fetch") (eS "say"))))) (ai (ae "_law_draw" (a2 (aa 0) (eI 9))) (gN 6)) bF)
  (ar (av (ab (aa 3) (a3 (aa 4) (aa 5) (aa 6))))))))))))))
def iI:Df:=⟨["_law_tape_here", "_law_program_here"],5,lP⟩
def A0:MS :=
  (ag (ai (ae "_law_tape" (a1 (aa 0))) (gN 1))
  (ag (ai (ae "_law_world" (a1 (aa 1))) (gT 3 (aI (gN 2) (aI (gN 3) (aI (gN 4) cZ)))))
  (ag (ai (jf 2 (my (ao aG (ae "walked" (a3 (aa 2) (aa 3) (aa 4))) (eI 1))) (gT 2 (aI (gN 9) (aI (gN 10) cZ))) aS (aa 10)) (gN 5))
  (ag (fZ (my (ao aL (aa 5) (jf 1 (bf (a1 (eI 12))) (gN 9) aS (ae "_law_look" (a2 (aa 1) (aa 2)))))) (gN 6) (ag (ai (ae "shown_look" (a1 (aa 6))) (gN 7))
  (bB (zW (kK (aA (eB i7 (ab (aa 7) (ab (eC (.ty "str")) ah))))) (aA (ao g7 (aa 7) (ae "_law_look_text" (a1 (aa 6)))))) (ar (eC (.bl false))) bF)))
  (ag (fZ (bf (ab (ao aL (eB bH (a1 (aa 4))) (eI 1)) ah)) (gN 8) (ag (ai (ae "shown_run" (ab (aa 2) (ab (ph (aa 4) de (bS (aa 8))) ah))) (gN 7))
  (bB (zW (kK (aA (eB i7 (ab (aa 7) (ab (eC (.ty "str")) ah))))) (aA (ao g7 (aa 7) (ae "_law_run_text" (ab (aa 2) (ab (ph (aa 4) de (bS (aa 8))) ah)))))) (ar (eC (.bl false))) bF)))
  (ar (ao ja (ae "shown_run" (a2 (aa 2) (av ah))) (eS "-"))))))))
def Be:Df:=⟨["_law_script"],8,A0⟩
structure bD(pg:Tb):Prop where
 wo:pg.fns "is_whole" =fv gQ
 qA:pg.fns "is_between" =fv eA
 wX:pg.fns "is_value" =fv gO
 pK:pg.fns "is_tuple_of" =fv dA
 mD:pg.fns "worth" =fv gv
 mX:pg.fns "joined_worth" =fv cU
 oy:pg.fns "names_of" =fv eR
 tw:pg.fns "number_of" =fv fA
 zf:pg.fns "rows_of" =fv iN
 hE:pg.fns "shown_number" =fv bX
 rN:pg.fns "shown_look" =fv c7
 sT:pg.fns "shown_run" =fv fJ
 oP:pg.fns "shown_parts" =fv cx
 rA:pg.fns "shown_step" =fv cY
 uR:pg.fns "hand_name" =fv fF
 rL:pg.fns "first_seat" =fv ef
 Dd:pg.fns "rested" =fv kj
 uE:pg.fns "is_rested" =fv dI
 rn:pg.fns "is_own_row" =fv dW
 kJ:pg.fns "behind_own_row" =fv bq
 J8:pg.fns "laid" =fv m8
 wR:pg.fns "touch_of" =fv eG
 pd:pg.fns "seat_behind" =fv bE
 vL:pg.fns "may_come" =fv fh
 pL:pg.fns "first_stand" =fv dF
 ni:pg.fns "hands_of" =fv eZ
 vI:pg.fns "state_of" =fv gG
 yp:pg.fns "wait_of" =fv bZ
 Fj:pg.fns "waits" =fv mG
 AM:pg.fns "can_go" =fv j0
 A2:pg.fns "gone" =fv nj
 tZ:pg.fns "due_touch" =fv fI
 rW:pg.fns "takes_gift" =fv cP
 dz:pg.fns "meeting" =fv bQ
 ng:pg.fns "with_hand_on" =fv cT
 qD:pg.fns "with_state" =fv dX
 wG:pg.fns "replaced" =fv gC
 Cn:pg.fns "walked" =fv jJ
 yK:pg.fns "stepped" =fv iS
 uU:pg.fns "_law_tape" =fv fE
 lE:pg.fns "_law_draw" =fv dO
 qH:pg.fns "_law_names" =fv gH
 oR:pg.fns "_law_pocket" =fv dB
 gR:pg.fns "_law_sum" =fv cD
 je:pg.fns "_law_at_box" =fv cw
 m5:pg.fns "_law_by_lock" =fv cQ
 qP:pg.fns "_law_piece" =fv gy
 sZ:pg.fns "_law_rows" =fv iB
 m7:pg.fns "_law_program" =fv fq
 iJ:pg.fns "_law_gift" =fv cL
 wF:pg.fns "_law_run" =fv gD
 rU:pg.fns "_law_world" =fv dY
 lQ:pg.fns "_law_word" =fv dP
 kN:pg.fns "_law_look_text" =fv bJ
 l4:pg.fns "_law_run_text" =fv bN
 tf:pg.fns "_law_look" =fv iI
 HC:pg.fns "law" =fv Be
 QB:pg.con "SORTS" =fv (.ktup [(.str "box"),(.str "lock"),(.str "lane"),(.str "door"),(.str "hand")])
 NA:pg.con "WORTHS" =fv (.int 1000)
 zZ:pg.con "MOST_OWN_ROWS" =fv (.int 200)
 Ht:pg.con "POCKETING" =fv (.ktup [(.str "get"),(.str "fetch"),(.str "clock"),(.str "lot"),(.str "hear")])
 Nq:pg.con "COUNTS" =fv (.int 0)
 QL:pg.con "SEATS" =fv (.int 1)
 Nv:pg.con "GIFTED" =fv (.ktup [(.str "clock"),(.str "lot"),(.str "hear")])
 D0:pg.con "MOST_STEPS" =fv (.int 60)
 dH:pg.xa "ROW_PARTS" =fv dH
 cF:pg.xa "PLACE_OF" =fv cF
 eJ:pg.xa "MET_SORT" =fv eJ
def fnT:List (String × Df):=[("is_whole",gQ),("is_between",eA),("is_value",gO),("is_tuple_of",dA),("worth",gv),("joined_worth",cU),("names_of",eR),("number_of",fA),("rows_of",iN),("shown_number",bX),("shown_look",c7),("shown_run",fJ),("shown_parts",cx),("shown_step",cY),("hand_name",fF),("first_seat",ef),("rested",kj),("is_rested",dI),("is_own_row",dW),("behind_own_row",bq),("laid",m8),("touch_of",eG),("seat_behind",bE),("may_come",fh),("first_stand",dF),("hands_of",eZ),("state_of",gG),("wait_of",bZ),("waits",mG),("can_go",j0),("gone",nj),("due_touch",fI),("takes_gift",cP),("meeting",bQ),("with_hand_on",cT),("with_state",dX),("replaced",gC),("walked",jJ),("stepped",iS),("_law_tape",fE),("_law_draw",dO),("_law_names",gH),("_law_pocket",dB),("_law_sum",cD),("_law_at_box",cw),("_law_by_lock",cQ),("_law_piece",gy),("_law_rows",iB),("_law_program",fq),("_law_gift",cL),("_law_run",gD),("_law_world",dY),("_law_word",dP),("_law_look_text",bJ),("_law_run_text",bN),("_law_look",iI),("law",Be)]
noncomputable def conT:List (Str × PV):=[("SORTS",(.ktup [(.str "box"),(.str "lock"),(.str "lane"),(.str "door"),(.str "hand")])),("WORTHS",(.int 1000)),("MOST_OWN_ROWS",(.int 200)),("POCKETING",(.ktup [(.str "get"),(.str "fetch"),(.str "clock"),(.str "lot"),(.str "hear")])),("COUNTS",(.int 0)),("SEATS",(.int 1)),("GIFTED",(.ktup [(.str "clock"),(.str "lot"),(.str "hear")])),("MOST_STEPS",(.int 60))]
def dcT:List (Str × List (Key × PV)):=[("ROW_PARTS",dH),("PLACE_OF",cF),("MET_SORT",eJ)]
def tb:Tb:=⟨λf=>(fnT.find? λp=>p.1 == f).map (·.2),λx=>(conT.find? λp=>decide (p.1=x)).map (·.2),λx=>(dcT.find? λp=>decide (p.1=x)).map (·.2)⟩
theorem aD{l:List (String × Df)}(nd:(l.map (·.1)).Nodup)(i:Nat)(e:l[i]?=fv (f,d)):(l.find? λp=>p.1 == f).map (·.2)=fv d:=by
 induction l generalizing i d with
 | nil=>cases e
 | cons x l ih =>
  rw[UP,WN] at nd
  cases i with
  | zero =>
   simp_all
  | succ i =>
   rw[UG] at e
   have m:=UR e
   have ne: ¬ (x.1 == f)=true:=λz=>nd.1 (by rw[beq_iff_eq.mp z];exact Vg.mpr ⟨_,m,rfl⟩)
   rw[List.find?_cons_of_neg (p:=λp:String × Df=>p.1 == f) ne]
   exact ih nd.2 i e
theorem aE:(fnT.map (·.1)).Nodup:=by decide +kernel
theorem has:bD tb:=⟨aD aE 0 rfl,aD aE 1 rfl,aD aE 2 rfl,aD aE 3 rfl,aD aE 4 rfl,aD aE 5 rfl,aD aE 6 rfl,aD aE 7 rfl,aD aE 8 rfl,aD aE 9 rfl,aD aE 10 rfl,aD aE 11 rfl,aD aE 12 rfl,aD aE 13 rfl,aD aE 14 rfl,aD aE 15 rfl,aD aE 16 rfl,aD aE 17 rfl,aD aE 18 rfl,aD aE 19 rfl,aD aE 20 rfl,aD aE 21 rfl,aD aE 22 rfl,aD aE 23 rfl,aD aE 24 rfl,aD aE 25 rfl,aD aE 26 rfl,aD aE 27 rfl,aD aE 28 rfl,aD aE 29 rfl,aD aE 30 rfl,aD aE 31 rfl,aD aE 32 rfl,aD aE 33 rfl,aD aE 34 rfl,aD aE 35 rfl,aD aE 36 rfl,aD aE 37 rfl,aD aE 38 rfl,aD aE 39 rfl,aD aE 40 rfl,aD aE 41 rfl,aD aE 42 rfl,aD aE 43 rfl,aD aE 44 rfl,aD aE 45 rfl,aD aE 46 rfl,aD aE 47 rfl,aD aE 48 rfl,aD aE 49 rfl,aD aE 50 rfl,aD aE 51 rfl,aD aE 52 rfl,aD aE 53 rfl,aD aE 54 rfl,aD aE 55 rfl,aD aE 56 rfl,rfl,rfl,rfl,rfl,rfl,rfl,rfl,rfl,rfl,rfl,rfl⟩
local macro_rules
 | `(tactic| array_get_dec)=> do
  let tm (x:String):Lean.MacroM Lean.Term:=match x with
   | "?"=>`(?_)
   | "_"=>`(_)
   | "A"=>`(by assumption)
   | "R"=>`(rfl)
   | "F"=>`(λ_ _=>rfl)
   | "K"=>`(by decide +kernel)
   | "D"=>`(by decide)
   | "Q"=>`(⟨rfl,rfl,rfl,rfl⟩)
   | "L"=>`(λ_ _ _ _ _ _=>⟨λ_=>?_,?_,?_⟩)
   | "O"=>`(by first | exact abq rfl | exact aaq rfl)
   | "Z"=>`(by intro z;cases z)
   | "w"=>`(Ae _)
   | x=>pure (Lean.mkIdent x.toName)
  let al (a:String):Lean.MacroM (Lean.TSyntax `tactic):=do
   match a.splitOn " " with
   | ["p",q,n]=>`(tactic| refine $(Lean.mkIdent q.toName) ($(Lean.mkIdent n.toName) ?_ ?_))
   | [n]=>`(tactic| refine $(Lean.mkIdent n.toName))
   | n::r=>do
     let ts ← r.toArray.mapM tm
     `(tactic| refine $(Lean.mkIdent n.toName) $ts*)
   | []=>Lean.Macro.throwUnsupported
  let fs (x:List (Lean.TSyntax `tactic)):Lean.MacroM (Lean.TSyntax `tactic):=do
   let e ← `(tactic| fail)
   x.foldrM (λa b=>`(tactic| first | $a:tactic | $b:tactic)) e
  let gr (g:String):Lean.MacroM (Lean.TSyntax `tactic):=do
   match g.splitOn ":" with
   | [h,b]=>do
     let y ← fs (← (b.splitOn "|").mapM al)
     match h.splitOn " " with
     | [n,k]=>do
       let hs ← (Array.range k.toNat!).mapM λ_=>`(_)
       `(tactic| (show $(Lean.mkIdent n.toName) $hs*;$y:tactic))
     | _=>Lean.Macro.throwUnsupported
   | _=>Lean.Macro.throwUnsupported
  let a ← ("JE 5:JD _|Md|IW|HE|O6|Pa Sx ? ? F|Fn A R ?|Py ? ? ?|yT R R ?|yN A R ?|Ig ?|Ia ?|C2 ? ? ? w|C2 ? ? ? R|I0 ?|BS ? ? ? ? ?|Lk ?|Mt ? ?|ND ? ?|Mg ?|Cb ? ? ?|GN A R ? F|BX ? ? ?|GJ ? R R Z D|ES ? ? ? Q|IC ? L|IU ? L|LP A R|Cy N5 R K PySem.boot_len ?|Cy N8 R K boot_isinstance ?|Cy Pz R K boot_abs ?|Cy Nt R K boot_sum ?|Cy yC R K boot_sorted ?|Ck Np R K boot_int ?|Ck Gv R K boot_tuple ?|Ck HK R K boot_list ?|Ck Jo R K boot_dict ?|Ck MK R K boot_str ?|qc R K boot_int|qc R K boot_bool|qc R K boot_str|qc R K boot_list|qc R K boot_tuple|qc R K boot_dict|Le PySem.F.plainAttrs_list PySem.F.slot_list_append PySem.F.type_list_append C7 ? ?|Le PySem.F.plainAttrs_list PySem.F.slot_list_index PySem.F.type_list_index AX ? ?|Le PySem.F.plainAttrs_str PySem.F.slot_str_join PySem.F.type_str_join LC ? ?|N7 PySem.F.plainAttrs_list PySem.F.slot_list_insert PySem.F.type_list_insert Qk ? ?#JA 5:LV|DJ ? ?#zY 5:Fh|EH ?|De ? ?#JS 5:HY A ? L|J4 A ? L|II A R O ?|NZ ? ? ?|KL ?|Ef ?|LO OG ? ? ?|Jx ? ?|Jm ? ? ? PassesOwn.never|HZ ?|AN#JT 5:Cp ? ? ? w|Cp ? ? ? R|JU ?|Ex ?|p JW.pt Cz|p JW.pt Hb|Ji ?|Lh ?#JW 5:Cz ? ?|Hb ? ?|Eg ?|Iv ?#JO 5:GH|D8 ?#JP 7:Ib|Dp ? ? ?#JG 5:Fv A R O|Jr ?#Og 5:EI|B1 ? ?#JI 6:zH R ?|MD R ? ?|Ej R ?|IQ ?#JF 5:Io|MC ?#QG 3:xV A R O|Gi A ?#Lo 3:xc|tK ? ?".splitOn "#").mapM gr
  let b ← ("Px|FR|Nb|Mw|Ov|Oo|RZ|Sb|Ro|Q9|RF|RI|Gu".splitOn "|").mapM al
  let t ← fs (a++b)
  `(tactic| repeat' first | $t:tactic | fail)
local macro_rules
 | `(tactic| clean_wf)=> `(tactic| (refine aN.on (by assumption) ⟨rfl,rfl,rfl,by decide +kernel,rfl,by decide +kernel,by decide +kernel⟩ rfl (λ_ _ _ _ _ _=>by first | exact TK λ_=>rfl | exact Uh λ_ _=>rfl | exact Ub λ_ _ _=>rfl | exact Tt λ_ _ _ _=>rfl | exact Ul λ_ _ _ _ _=>rfl) λ_ _ _ _ _ _ _ _ _ _=>?_;obtain⟨⟩:= ‹bD _›; array_get_dec))
section
variable {P:Vl} {w:VE} {K:UC} {mg:Str->Option UH} {pg:Tb}
theorem vK(T:bD pg)(a:At K mg "is_whole" (top 1)):aN P w K mg pg "is_whole" gQ (top 1) ["thing"]:=by clean_wf
theorem qX(T:bD pg)(a:At K mg "is_between" (top 2)):aN P w K mg pg "is_between" eA (top 2) ["thing", "least", "most"]:=by clean_wf
theorem vi(T:bD pg)(a:At K mg "is_value" (top 3)):aN P w K mg pg "is_value" gO (top 3) ["thing"]:=by clean_wf
theorem pj(T:bD pg)(a:At K mg "is_tuple_of" (top 4)):aN P w K mg pg "is_tuple_of" dA (top 4) ["thing", "many"]:=by clean_wf
theorem El(T:bD pg)(a:At K mg "worth" (top 9)):aN P w K mg pg "worth" gv (top 9) ["tree", "pockets", "word", "one"]:=by clean_wf
theorem nU(T:bD pg)(a:At K mg "joined_worth" (top 10)):aN P w K mg pg "joined_worth" cU (top 10) ["word", "one", "other"]:=by clean_wf
theorem wZ(T:bD pg)(a:At K mg "names_of" (top 12)):aN P w K mg pg "names_of" eR (top 12) ["program", "sort", "ones"]:=by
 have z0:(oO ["program", "sort", "ones"] ["one"]).Nodup:=by decide +kernel
 clean_wf
theorem uW(T:bD pg)(a:At K mg "number_of" (top 13)):aN P w K mg pg "number_of" fA (top 13) ["program", "sort", "name", "names"]:=by clean_wf
theorem yR(T:bD pg)(a:At K mg "rows_of" (top 14)):aN P w K mg pg "rows_of" iN (top 14) ["program", "hand"]:=by clean_wf
theorem nS(T:bD pg)(a:At K mg "shown_number" (top 20)):aN P w K mg pg "shown_number" bX (top 20) ["number"]:=by clean_wf
theorem rC(T:bD pg)(a:At K mg "shown_look" (top 22)):aN P w K mg pg "shown_look" c7 (top 22) ["look"]:=by clean_wf
theorem sX(T:bD pg)(a:At K mg "shown_run" (top 23)):aN P w K mg pg "shown_run" fJ (top 23) ["program", "run"]:=by
 have z0:(oO ["program", "run"] ["step"]).Nodup:=by decide +kernel
 clean_wf
theorem pb(T:bD pg)(a:At K mg "shown_parts" (top 24)):aN P w K mg pg "shown_parts" cx (top 24) ["between", "texts"]:=by clean_wf
theorem rK(T:bD pg)(a:At K mg "shown_step" (top 25)):aN P w K mg pg "shown_step" cY (top 25) ["program", "step", "name"]:=by clean_wf
theorem tj(T:bD pg)(a:At K mg "hand_name" (top 26)):aN P w K mg pg "hand_name" fF (top 26) ["program", "hand"]:=by clean_wf
theorem sd(T:bD pg)(a:At K mg "first_seat" (top 30)):aN P w K mg pg "first_seat" ef (top 30) ["program", "hand"]:=by clean_wf
theorem Aw(T:bD pg)(a:At K mg "rested" (top 31)):aN P w K mg pg "rested" kj (top 31) ["program", "hand", "seat", "rows", "here", "turn"]:=by clean_wf
theorem sF(T:bD pg)(a:At K mg "is_rested" (top 32)):aN P w K mg pg "is_rested" dI (top 32) ["rows", "seat"]:=by clean_wf
theorem qK(T:bD pg)(a:At K mg "is_own_row" (top 33)):aN P w K mg pg "is_own_row" dW (top 33) ["row", "held"]:=by clean_wf
theorem kS(T:bD pg)(a:At K mg "behind_own_row" (top 34)):aN P w K mg pg "behind_own_row" bq (top 34) ["row", "seat", "onward"]:=by clean_wf
theorem Jc(T:bD pg)(a:At K mg "laid" (top 35)):aN P w K mg pg "laid" m8 (top 35) ["pockets", "name", "value", "others"]:=by
 have z0:(oO ["pockets", "name", "value", "others"] ["pocket"]).Nodup:=by decide +kernel
 clean_wf
theorem wA(T:bD pg)(a:At K mg "touch_of" (top 36)):aN P w K mg pg "touch_of" eG (top 36) ["program", "hand", "seat", "rows", "row", "thing", "value", "part", "entry"]:=by clean_wf
theorem pA(T:bD pg)(a:At K mg "seat_behind" (top 37)):aN P w K mg pg "seat_behind" bE (top 37) ["program", "hand", "seat", "value", "row", "pockets", "held"]:=by
 have z0:(oO ["program", "hand", "seat", "value", "row", "pockets", "held"] ["lock"]).Nodup:=by decide +kernel
 clean_wf
theorem w5(T:bD pg)(a:At K mg "may_come" (top 38)):aN P w K mg pg "may_come" fh (top 38) ["touch", "value"]:=by clean_wf
theorem oU(T:bD pg)(a:At K mg "first_stand" (top 43)):aN P w K mg pg "first_stand" dF (top 43) ["program", "hands"]:=by
 have z0:(oO ["program", "hands"] ["hand"]).Nodup:=by decide +kernel
 have z1:(oO ["program", "hands"] ["box"]).Nodup:=by decide +kernel
 have z2:(oO ["program", "hands"] ["lock"]).Nodup:=by decide +kernel
 have z3:(oO ["program", "hands"] ["lane"]).Nodup:=by decide +kernel
 have z4:(oO ["program", "hands"] ["door"]).Nodup:=by decide +kernel
 clean_wf
theorem vJ(T:bD pg)(a:At K mg "hands_of" (top 44)):aN P w K mg pg "hands_of" eZ (top 44) ["program"]:=by clean_wf
theorem wY(T:bD pg)(a:At K mg "state_of" (top 45)):aN P w K mg pg "state_of" gG (top 45) ["program", "stand", "sort", "name"]:=by clean_wf
theorem zp(T:bD pg)(a:At K mg "wait_of" (top 46)):aN P w K mg pg "wait_of" bZ (top 46) ["program", "stand", "hand", "touch", "holder"]:=by clean_wf
theorem DD(T:bD pg)(a:At K mg "waits" (top 47)):aN P w K mg pg "waits" mG (top 47) ["program", "stand"]:=by
 have z0:(oO ["program", "stand"] ["hand"]).Nodup:=by decide +kernel
 clean_wf
theorem B3(T:bD pg)(a:At K mg "can_go" (top 48)):aN P w K mg pg "can_go" j0 (top 48) ["program", "stand"]:=by
 have z0:(oO ["program", "stand"] ["hand", "wait"]).Nodup:=by decide +kernel
 clean_wf
theorem LF(T:bD pg)(a:At K mg "gone" (top 52)):aN P w K mg pg "gone" nj (top 52) ["program", "stand", "hand", "gift", "touch", "kind", "thing", "sort", "met", "behind"]:=by clean_wf
theorem uc(T:bD pg)(a:At K mg "due_touch" (top 53)):aN P w K mg pg "due_touch" fI (top 53) ["program", "stand", "hand", "gift", "wait", "touch"]:=by clean_wf
theorem rG(T:bD pg)(a:At K mg "takes_gift" (top 54)):aN P w K mg pg "takes_gift" cP (top 54) ["touch", "gift"]:=by clean_wf
theorem yO(T:bD pg)(a:At K mg "meeting" (top 55)):aN P w K mg pg "meeting" bQ (top 55) ["touch", "event", "state", "kind", "value"]:=by clean_wf
theorem ox(T:bD pg)(a:At K mg "with_hand_on" (top 56)):aN P w K mg pg "with_hand_on" cT (top 56) ["program", "stand", "hand", "value", "seat", "counted"]:=by clean_wf
theorem rV(T:bD pg)(a:At K mg "with_state" (top 57)):aN P w K mg pg "with_state" dX (top 57) ["program", "stand", "sort", "name", "state", "place"]:=by clean_wf
theorem wg(T:bD pg)(a:At K mg "replaced" (top 58)):aN P w K mg pg "replaced" gC (top 58) ["parts", "place", "part"]:=by clean_wf
theorem BU(T:bD pg)(a:At K mg "walked" (top 61)):aN P w K mg pg "walked" jJ (top 61) ["program", "stand", "run", "here", "touches", "place", "step", "told"]:=by clean_wf
theorem zC(T:bD pg)(a:At K mg "stepped" (top 62)):aN P w K mg pg "stepped" iS (top 62) ["program", "stand", "place", "step", "refusal"]:=by clean_wf
theorem tL(T:bD pg)(a:At K mg "_law_tape" (top 64)):aN P w K mg pg "_law_tape" fE (top 64) ["_law_script"]:=by clean_wf
theorem sR(T:bD pg)(a:At K mg "_law_draw" (top 65)):aN P w K mg pg "_law_draw" dO (top 65) ["_law_tape_here", "_law_many", "_law_script", "_law_figure", "_law_cell", "_law_mixed"]:=by clean_wf
theorem rl(T:bD pg)(a:At K mg "_law_names" (top 66)):aN P w K mg pg "_law_names" gH (top 66) ["_law_tape_here", "_law_many", "_law_pool", "_law_start", "_law_stride"]:=by
 have z0:(oO ["_law_tape_here", "_law_many", "_law_pool", "_law_start", "_law_stride"] ["_law_k"]).Nodup:=by decide +kernel
 clean_wf
theorem o8(T:bD pg)(a:At K mg "_law_pocket" (top 67)):aN P w K mg pg "_law_pocket" dB (top 67) ["_law_tape_here", "_law_kit"]:=by clean_wf
theorem wq(T:bD pg)(a:At K mg "_law_sum" (top 68)):aN P w K mg pg "_law_sum" cD (top 68) ["_law_tape_here", "_law_kit", "_law_deep", "_law_way", "_law_word_here", "_law_one"]:=by clean_wf
theorem oZ(T:bD pg)(a:At K mg "_law_at_box" (top 69)):aN P w K mg pg "_law_at_box" cw (top 69) ["_law_tape_here", "_law_kit", "_law_box"]:=by clean_wf
theorem oC(T:bD pg)(a:At K mg "_law_by_lock" (top 70)):aN P w K mg pg "_law_by_lock" cQ (top 70) ["_law_tape_here", "_law_kit", "_law_lock", "_law_some"]:=by
 have z0:(oO ["_law_tape_here", "_law_kit", "_law_lock", "_law_some"] ["_law_k"]).Nodup:=by decide +kernel
 clean_wf
theorem q8(T:bD pg)(a:At K mg "_law_piece" (top 71)):aN P w K mg pg "_law_piece" gy (top 71) ["_law_tape_here", "_law_kit", "_law_way", "_law_lane", "_law_door"]:=by clean_wf
theorem uT(T:bD pg)(a:At K mg "_law_rows" (top 72)):aN P w K mg pg "_law_rows" iB (top 72) ["_law_tape_here", "_law_kit", "_law_rows_here", "_law_k", "_law_goal"]:=by clean_wf
theorem nO(T:bD pg)(a:At K mg "_law_program" (top 73)):aN P w K mg pg "_law_program" fq (top 73) ["_law_tape_here", "_law_many", "_law_k", "_law_names_here", "_law_some", "_law_kit", "_law_boxes", "_law_hands"]:=by
 have z0:(oO ["_law_tape_here", "_law_many", "_law_k", "_law_names_here", "_law_some", "_law_kit", "_law_boxes", "_law_hands"] ["_law_name"]).Nodup:=by decide +kernel
 clean_wf
theorem ua(T:bD pg)(a:At K mg "_law_gift" (top 74)):aN P w K mg pg "_law_gift" cL (top 74) ["_law_tape_here", "_law_program_here", "_law_stand", "_law_hand", "_law_kind", "_law_thing", "_law_value"]:=by clean_wf
theorem wO(T:bD pg)(a:At K mg "_law_run" (top 75)):aN P w K mg pg "_law_run" gD (top 75) ["_law_tape_here", "_law_program_here", "_law_stand", "_law_most", "_law_run_here", "_law_k", "_law_hands", "_law_hand", "_law_gift_here"]:=by clean_wf
theorem qV(T:bD pg)(a:At K mg "_law_world" (top 76)):aN P w K mg pg "_law_world" dY (top 76) ["_law_tape_here", "_law_program_here", "_law_stand"]:=by clean_wf
theorem uY(T:bD pg)(a:At K mg "_law_word" (top 77)):aN P w K mg pg "_law_word" dP (top 77) ["_law_value"]:=by clean_wf
theorem ll(T:bD pg)(a:At K mg "_law_look_text" (top 78)):aN P w K mg pg "_law_look_text" bJ (top 78) ["_law_look_here"]:=by clean_wf
theorem l9(T:bD pg)(a:At K mg "_law_run_text" (top 79)):aN P w K mg pg "_law_run_text" bN (top 79) ["_law_program_here", "_law_run_here", "_law_words", "_law_hand", "_law_gift_here"]:=by clean_wf
theorem uZ(T:bD pg)(a:At K mg "_law_look" (top 80)):aN P w K mg pg "_law_look" iI (top 80) ["_law_tape_here", "_law_program_here", "_law_kinds", "_law_kind", "_law_thing", "_law_value", "_law_mark"]:=by clean_wf
theorem Hv(T:bD pg)(a:At K mg "law" (top 81)):aN P w K mg pg "law" Be (top 81) ["_law_script", "_law_tape_here", "_law_program_here", "_law_stand", "_law_run_here", "_law_looks", "_law_look_here", "_law_found", "_law_place"]:=by
 have z0:(oO ["_law_script", "_law_tape_here", "_law_program_here", "_law_stand", "_law_run_here", "_law_looks", "_law_look_here", "_law_found", "_law_place"] ["_law_hand", "_law_look_here"]).Nodup:=by decide +kernel
 have z1:(oO ["_law_script", "_law_tape_here", "_law_program_here", "_law_stand", "_law_run_here", "_law_looks", "_law_look_here", "_law_found", "_law_place"] ["_law_k"]).Nodup:=by decide +kernel
 clean_wf
end
end K84
end
section
open PySem L2 P3
local macro_rules
 | `(tactic| simp? [$ls,*])=> `(tactic| simp? (disch:=omega) only [$ls,*])
 | `(tactic| simp? (disch:= $t) only [$ls,*])=> do
  let xs ← ("↓GZ ↓Nh ↓NP N1 ↓Nx Mn Ip ↓Ni Jh ↓HA IF Jw ↓Od Mv Jb Kh ↓Qh KQ ↓Ob ↓JJ DU ↓RL wK ↓HH DE EO F6 ↓Pj MQ Lu HI ↓Lr Fo ↓M7 IM LA K8 Mh ↓wC ↓DQ Bz CO CN AK ↓Mu F0 FK Ge DM ↓Dz AY ↓Et ↓D7 ↓Cs yB yH ↓KH Ec ↓LN EK nH ↓DG ↓R7 ↓vt ↓Nf KS JY EU EA Du ↓Ap xp GL FI Fw ↓G2 ↓Fu B0 ↓Kt Ei ↓wL xD xJ D6 DL ↓Mo GU ER LZ N3 Mj KR MB KO O7 IE JQ ↓HM Gs Gm Gd J9 ↓qN mq CM ↓Ii Kr Jq KA JN Ky ↓vR rT ↓IB E8 Br BM ↓NJ LI Lm Ph Jk E9 FD Dy E3 Ml ck Bj iK FY lu List.getElem?_cons_zero List.getElem?_cons_succ List.set_cons_zero List.set_cons_succ List.map_cons List.map_nil List.cons_append List.nil_append List.replicate_succ List.replicate_zero List.length_cons List.length_nil F7 Eh mF EY zP P1 Ft rM Kk J0 Jz GB EE DP DA qI vn DZ Gh A8 Lw Fe R0 L1 PY GG gx P7 Ru len_T Kd Of ↓IY DI CQ FJ GS BC Oa HF uO K2 JZ bu aQ pS nY Gb Ai N0 KY ↓Qd Kn Ks ↓P5 ↓NR J7 Pw Q5 Qc List.append_assoc List.length_append Jp ET in_K ↓NO MH Nn Ox NU La kq decide_true decide_false Bool.not_true Bool.not_false if_true if_false reduceIte ite_self Bool.false_eq_true String.reduceEq String.reduceNe reduceCtorEq Int.reduceEq Int.reduceNe Int.reduceLT Int.reduceLE Int.reduceSub Int.reduceAdd Int.reduceMul Int.reduceToNat Int.reduceNeg".splitOn " ").toArray.mapM λw=>if w.startsWith "↓" then `(Lean.Parser.Tactic.simpLemma| ↓$(Lean.mkIdent (w.drop 1).toName):term) else `(Lean.Parser.Tactic.simpLemma| $(Lean.mkIdent w.toName):term)
  let ys : Lean.TSyntaxArray [`Lean.Parser.Tactic.simpStar,`Lean.Parser.Tactic.simpErase,`Lean.Parser.Tactic.simpLemma] := ls.getElems ++ xs.map (λx=>⟨x.raw⟩)
  `(tactic| simp (disch:= $t) only [$ys,*])
section
set_option maxHeartbeats 1000000
namespace K84
inductive Bo where | add | sub | mul | less | same
 deriving DecidableEq
noncomputable def Bo.w:Bo->Str
 | .add=> "add" | .sub=> "sub" | .mul=> "mul" | .less=> "less" | .same=> "same"
noncomputable def Bo.f:Bo->Int->Int->Int
 | .add,a,b=>(a+b) % 1000
 | .sub,a,b=>(a - b) % 1000
 | .mul,a,b=>a*b % 1000
 | .less,a,b=>if a < b then 1 else 0
 | .same,a,b=>if a=b then 1 else 0
inductive Sm where
 | num (n:Int) | of (x:Str) | un (a:Sm) | bin (o:Bo) (a b:Sm)
def iM:Sm->PV
 | .num n=> .tup [.str "num",.int n]
 | .of x=> .tup [.str "of",.str x]
 | .un a=> .tup [.str "not",iM a]
 | .bin o a b=> .tup [.str o.w,iM a,iM b]
def Sm.dp:Sm->Nat
 | .num _=>1 | .of _=>1 | .un a=>a.dp+1 | .bin _ a b=>max a.dp b.dp+1
def Sm.ok:Sm->Prop
 | .num n=>0<=n/\n<=999 | .of _=>True | .un a=>a.ok | .bin _ a b=>a.ok/\b.ok
def Sm.val(f:Str->Int):Sm->Int
 | .num n=>n
 | .of x=>f x
 | .un a=>if a.val f=0 then 1 else 0
 | .bin o a b=>o.f (a.val f) (b.val f)
theorem Sm.sy(hf : ∀ x, 0 <= f x /\ f x <= 999) : ∀ e : Sm, e.ok -> 0 <= e.val f /\ e.val f <= 999
  | .num n, h => h
  | .of x, _ => hf x
  | .un a, _ => by unfold Sm.val; split <;> omega
  | .bin o a b, _ => by
    unfold Sm.val Bo.f;cases o <;> simp only <;> first
      | (split <;> omega)
      | exact ⟨Wn _ (by decide), by omega⟩
      | exact ⟨Wn _ (by decide), by omega⟩
      | exact ⟨Wn _ (by decide), by omega⟩
theorem fk: ∀ e ,(iM e).flat=true
 | .num n=>rfl
 | .of x=>rfl
 | .un a=>by simp[iM,PV.flat,PV.aU,fk a]
 | .bin o a b=>by simp[iM,PV.flat,PV.aU,fk a,fk b]
abbrev Pk:=List (Str × Int)
def uC(ps:Pk):PV:= .tup (ps.map fg)
noncomputable def fP:Pk->Str->Int
 | [],_=>0
 | q::r,x=>if q.1=x then q.2 else fP r x
structure Nd(ps:Pk):Prop where
 R6:(ps.map (·.1)).Pairwise iO
 mem: ∀ q∈ps,1<=q.2/\q.2<=999
 len:ps.length<=20
theorem Nd.nd{ps:Pk}(h:Nd ps):(ps.map (·.1)).Nodup:=h.R6.imp λ{a b} z e=>by subst e;exact gA _ z
theorem sN: ∀{ps},(∀ q∈ps,1<=q.2/\q.2<=999)-> ∀ x,0<=fP ps x/\fP ps x<=999
 | [],_,x=>by simp[fP]
 | q::r,h,x=>by
  unfold fP;split
  . have:=h q UX;omega
  . exact sN (λz hz=>h z (UZ _ hz)) x
theorem ir: ∀(ps:Pk),PV.aU (ps.map fg)=true
 | []=>rfl
 | q::r=>by simp[PV.aU,fg,PV.flat,ir r]
noncomputable def Hu(ps:Pk):List (Key × PV):=ps.map λq=>(.inr q.1,.int q.2)
theorem tP: ∀ ps,jF (ps.map fg)=fv (Hu ps)
 | []=>rfl
 | q::r=>by simp[jF,fg,pairP?,gY,tP r,Hu]
theorem Ce: ∀ ps x,(cv (Hu ps) (.inr x)).getD (.int 0)= .int (fP ps x)
 | [],x=>rfl
 | q::r,x=>by
  unfold fP Hu;rw[UP];by_cases e:q.1=x
  . rw[if_pos e,e,gx];rfl
  . rw[if_neg e,bW (by simpa using e)];exact Ce r x
theorem yd: ∀{kvs k v},k ∉ kvs.map (λkv:Key × PV=>kv.1)->mT kvs k v=kvs++[(k,v)]:=by
 intro kvs k v h;unfold mT;rw[if_neg];simp only[List.any_eq_true,decide_eq_true_eq,not_exists,not_and];exact λx hx e=>h (Vg.mpr ⟨x,hx,e⟩)
theorem ou: ∀ more acc,((acc++more).map (λkv:Key × PV=>kv.1)).Nodup->cH acc more=acc++more
 | [],acc,_=>by simp[cH]
 | p::r,acc,h=>by
  have h2:p.1 ∉ acc.map (λkv:Key × PV=>kv.1):=by
   rw[Wa,Zg] at h;intro m;exact h.2.2 p.1 m p.1 (by simp) rfl
  show cH (mT acc p.1 p.2) r=_;rw [yd h2,ou r _ (by simpa using h)];simp
theorem Ah(nd : (ps.map (·.1)).Nodup) : cH [] (Hu ps) = Hu ps := by
  rw [ou _ _ ?_]; · rfl
  have e : ([] ++ Hu ps).map (λkv : Key × PV => kv.1) = (ps.map (·.1)).map (VY (α := Int)) := by unfold Hu; rw [VJ, Wj, Wj]; rfl
  rw [e];exact List.Pairwise.map _ (λa b z e => z (Sum.inr.inj e)) nd
section
variable {pg:Tb} (T:bD pg)
include T
theorem NB k (o:Bo) a b h (ha:0<=a/\a<=999):run pg (k+1) "joined_worth" [.str o.w,.int a,.int b] h= .ok (.int (o.f a b)) h:=by
 rw[run_eq T.mX rfl];cases o<;>simp? [cU,iC,Bo.w,Bo.f]
 all_goals split<;>rfl
theorem ib h (nd:(ps.map (·.1)).Nodup) (hm: ∀ q∈ps,1<=q.2/\q.2<=999) (hl:ps.length<=1000): ∀ e k,e.ok->e.dp<=k->run pg (k+1) "worth" [iM e,uC ps] h= .ok (.int (e.val (fP ps))) h
 | .num n,k,ho,hk=>by
  rw[run_eq T.mD rfl];simp? [gv,j3,iM,Sm.val]
 | .of x,k,ho,hk=>by
  rw[run_eq T.mD rfl];have hz:(ps.map fg).length < 16777216:=by rw[UE];omega
  simp? [gv,j3,iM,uC,Sm.val,tP,Ah nd,Ce];exact aF rfl
 | .un a,k,ho,hk=>by
  obtain⟨k,rfl⟩: ∃ j,k=j+1:=⟨k - 1,by unfold Sm.dp at hk;omega⟩
  have ih:=ib h nd hm hl a k ho (by unfold Sm.dp at hk;omega);rw[run_eq T.mD rfl];simp? [gv,j3,iM,Sm.val,ih];split<;>rfl
 | .bin o a b,k,ho,hk=>by
  obtain⟨k,rfl⟩: ∃ j,k=j+1:=⟨k - 1,by unfold Sm.dp at hk;omega⟩
  have ih1:=ib h nd hm hl a k ho.1 (by unfold Sm.dp at hk;omega);have ih2:=ib h nd hm hl b k ho.2 (by unfold Sm.dp at hk;omega);have ij:=NB T k o (a.val (fP ps)) (b.val (fP ps)) h (Sm.sy (sN hm) a ho.1);rw[run_eq T.mD rfl];cases o<;>(simp only[Bo.w] at ij;simp? [gv,j3,iM,Sm.val,ih1,ih2,ij,Bo.w])
end
theorem nW{os:Pk}(e:h[n]?=fv (.lst (os.map fg)))(hl:os.length < 64)(nd:(os.map (·.1)).Nodup):dG [.ref n] h= .ok (.ref h.length) (h++[.lst ((mV os).map fg)]):=by
 have hi:itemsOf h (.ref n)=fv (os.map fg):=by simp[itemsOf,cj,e]
 show kr [.ref n] h=_;unfold kr;simp only[hi];cases os with
 | nil=>simp[cz,dJ,mV]
 | cons q r =>
  have e1:cz ((q::r).map fg)=UB:=rfl
  rw[e1]
  simp only[sH]
  rw[if_pos ⟨hl,nd⟩]
def lay(ps:Pk)(x:Str)(v:Int):Pk:=mV (ps.filter (λq=> !decide (q.1=x))++if v=0 then[] else[(x,v)])
theorem jm(ps:Pk):(mV ps).Perm ps:=XA ps _
theorem yD{ps:Pk}(nd:(ps.map (·.1)).Nodup):((mV ps).map (·.1)).Pairwise iO:=by
 have h1:=Xa (λa b c=>gc a.1 b.1 c.1) (λa b=>by simpa using iQ a.1 b.1) ps;have h2:=((jm ps).map _).nodup_iff.mpr nd;rw[X9];rw[List.nodup_iff_pairwise_ne,X9] at h2;refine h1.imp₂ (λa b z1 z2=>?_) h2;rcases kZ z2 with z | z
 . exact z
 . unfold oN at z1;simp[z] at z1
theorem Ll(nd:(ps.map (·.1)).Nodup): ∀ q∈ps,fP ps q.1=q.2:=by
 induction ps with
 | nil=>simp_all
 | cons p r ih =>
  intro q m
  rw[UP] at nd;rw[WN] at nd
  unfold fP
  rcases UW.mp m with e | m
  . simp_all
  . rw[if_neg (λz=>nd.1 (by rw[z];exact Vg.mpr ⟨q,m,rfl⟩))];exact ih nd.2 q m
theorem Lg(h:x ∉ ps.map (·.1)):fP ps x=0:=by
 induction ps with
 | nil=>rfl
 | cons p r ih =>
  rw[UP,UW,not_or] at h
  unfold fP
  rw[if_neg (λz=>h.1 z.symm)]
  exact ih h.2
theorem AG{ps:Pk}(nd:(ps.map (·.1)).Nodup) x (v:Int):((ps.filter (λq=> !decide (q.1=x))++if v=0 then[] else[(x,v)]).map (·.1)).Nodup:=by
 rw[Wa];refine Zg.mpr ⟨(List.Sublist.map _ YD).nodup nd,?_,λa ha b hb e=>?_⟩
 . split<;>simp
 . simp_all
structure qF(L:List Str)(ps:Pk):Prop where
 R6:(ps.map (·.1)).Pairwise iO
 mem: ∀ q∈ps,q.1∈L/\1<=q.2/\q.2<=999
theorem qF.nd(h:qF L ps):(ps.map (·.1)).Nodup:=h.R6.imp λ{a b} z e=>by subst e;exact gA _ z
theorem qF.len(h:qF L ps):ps.length<=L.length:=by
 have:=Yj h.nd (l₂ :=L) (λx hx=>by obtain⟨q,hq,rfl⟩:=Vg.mp hx;exact(h.mem q hq).1);simpa using this
theorem qF.nil:qF L []:=⟨.nil,λq m=>by cases m⟩
theorem vF(h:qF L ps)(hx:x∈L)(h0:0<=v)(h9:v<=999):qF L (lay ps x v):=by
 refine⟨yD (AG h.nd x v),λq m=>?_⟩;rcases V6.mp ((jm _).mem_iff.mp m) with m | m
 . exact h.mem q (XQ.mp m).1
 . split at m
   . cases m
   . rw[Vz.mp m];exact⟨hx,show 1<=v by omega,h9⟩
theorem kL x: ∀ ps:Pk,(ps.filterMap λq=>if q.1=x then UB else fv (fg q))=(ps.filter (λq=> !decide (q.1=x))).map fg
 | []=>rfl
 | q::r=>by
  by_cases z:q.1=x
  . rw[WY (by simp[z]),VB (by simp[z]),kL x r]
  . rw[WZ (by rw[if_neg z]),Vn (by simp[z]),UP,kL x r]
section
variable{pg:Tb}(T:bD pg)
include T
theorem xq k h (nd:(ps.map (·.1)).Nodup) x v (hl:(lay ps x v).length<=20) (hp:ps.length<=1000):run pg (k+1) "laid" [uC ps,.str x,.int v] h= .ok (uC (lay ps x v)) h:=by
 rw[run_eq T.J8 rfl];have e1:ia ⟨UB,ps.map fg⟩ (aX 1 (gN 4) (aA (ao g7 (eX 4 0) (aa 1))) (aa 4) (run pg k) [fv (.tup (ps.map fg)),fv (.str x),fv (.int v),UB]) (ps.map fg) [] h= .ok ([]++ps.filterMap λq=>if q.1=x then UB else fv (fg q)) h:=by
  refine dC rfl ps [] (λq m=>?_) (by simp;omega);simp? [fg];by_cases z:q.1=x<;>simp[z]
 rw[kL] at e1;have hl':(ps.filter (λq=> !decide (q.1=x))++if v=0 then[] else[(x,v)]).length<=20:=by rw[<- (jm _).length_eq];exact hl
 have nd':=AG nd x v;have hz:((ps.filter (λq=> !decide (q.1=x))).map fg).length < 16777216:=by
  grind
 by_cases hv:v=0
 . subst hv;rw[if_pos rfl,Vp] at hl' nd';have s1:=nW (h:=h++[.lst ((ps.filter (λq=> !decide (q.1=x))).map fg)]) (n:=h.length) bu (YV hl' (by decide)) nd';simp? [m8,vS,uC,e1,s1];rw[aF (v:= .tup _) (ir _),lay,if_pos rfl,Vp]
 . rw[if_neg hv] at hl' nd';have s1:=nW (h:=h++[.lst ((ps.filter (λq=> !decide (q.1=x))++[(x,v)]).map fg)]) (n:=h.length) bu (YV hl' (by decide)) nd';rw[Wa] at s1;simp? [m8,vS,uC,e1,hv];rw[show ab8 fg [(x,v)]=[PV.tup [PV.str x,PV.int v]] from rfl] at s1;simp? [s1,VU];rw[aF (v:= .tup _) (ir _),lay,if_neg hv]
end
inductive Rw where
 | let_ (x:Str) (e:Sm) | leap (k:Int) (e:Sm) | take (l:Str) | free (l:Str) | get (x b:Str) | put (b:Str) (e:Sm)
 | send (l:Str) (e:Sm) | fetch (x l:Str) | say (d:Str) (e:Sm) | clock (x:Str) | lot (x:Str) (n:Int) | hear (x d:Str)
noncomputable def Rw.w:Rw->Str
 | .let_ _ _=> "let" | .leap _ _=> "leap" | .take _=> "take" | .free _=> "free" | .get _ _=> "get" | .put _ _=> "put"
 | .send _ _=> "send" | .fetch _ _=> "fetch" | .say _ _=> "say" | .clock _=> "clock" | .lot _ _=> "lot" | .hear _ _=> "hear"
def Rw.ps:Rw->List PV
 | .let_ x e=>[.str x,iM e] | .leap k e=>[.int k,iM e] | .take l=>[.str l] | .free l=>[.str l] | .get x b=>[.str x,.str b] | .put b e=>[.str b,iM e]
 | .send l e=>[.str l,iM e] | .fetch x l=>[.str x,.str l] | .say d e=>[.str d,iM e] | .clock x=>[.str x] | .lot x n=>[.str x,.int n] | .hear x d=>[.str x,.str d]
def bC(r:Rw):PV:= .tup (.str r.w::r.ps)
def fU(rs:List Rw):PV:= .tup (rs.map bC)
structure fY where
 row:Nat
 ps:Pk
 held:List Str
noncomputable def jk(hs:List Str):PV:= .tup (hs.map PV.str)
def aw(s:fY):PV:= .tup [.int s.row,uC s.ps,jk s.held]
noncomputable def own(held:List Str):Rw->Bool
 | .take l=>decide (l∈held)
 | .free l=> !decide (l∈held)
 | .let_ _ _=>true
 | .leap _ _=>true
 | _=>false
def nV(e:Sm):=e.ok/\e.dp<=7
def fO(L:List Str)(n:Nat):Rw->Prop
 | .let_ x e=>x∈L/\nV e
 | .leap k e=>0<=k/\k<=n/\nV e
 | .put _ e=>nV e
 | .send _ e=>nV e
 | .say _ e=>nV e
 | .get x _=>x∈L
 | .fetch x _=>x∈L
 | .clock x=>x∈L
 | .lot x m=>x∈L/\2<=m/\m<=1000
 | .hear x _=>x∈L
 | _=>True
def behind(s:fY):Rw->fY
 | .let_ x e=>⟨s.row+1,lay s.ps x (e.val (fP s.ps)),s.held⟩
 | .leap k e=>if e.val (fP s.ps)=0 then⟨s.row+1,s.ps,s.held⟩ else⟨k.toNat,s.ps,s.held⟩
 | _=>⟨s.row+1,s.ps,s.held⟩
structure dm(L:List Str)(rs:List Rw)(s:fY):Prop where
 pk:qF L s.ps
 le:s.row<=rs.length
theorem qh: ∀ hs:List Str,PV.aU (hs.map PV.str)=true
 | []=>rfl
 | x::r=>by rw[UP,PV.aU,qh r];rfl
theorem jE s:(aw s).flat=true:=by
 simp[aw,PV.flat,PV.aU,uC,ir,jk,qh]
theorem Cf r:(bC r).flat=true:=by
 cases r<;>simp[bC,Rw.ps,PV.flat,PV.aU,fk]
theorem kO: ∀ rs:List Rw,PV.aU (rs.map bC)=true
 | []=>rfl
 | x::r=>by rw[UP,PV.aU,kO r,Cf];rfl
def bI(rs:List Rw)(s:fY):Bool:=match rs[s.row]? with
 | none=>true
 | some r=> !own s.held r
def bV rs 
 | 0,s=>if bI rs s then s else⟨rs.length,s.ps,s.held⟩
 | n+1,s=>if bI rs s then s else match rs[s.row]? with
  | none=>s
  | some r=>bV rs n (behind s r)
theorem kD(h:dm L rs s)(hr:fO L rs.length r)(e:rs[s.row]?=fv r):dm L rs (behind s r):=by
 have hlt:=(UJ.mp e).1;cases r with
 | let_ x e0 =>
  have hv:=Sm.sy (sN λq m=>(h.pk.mem q m).2) e0 hr.2.1
  exact⟨vF h.pk hr.1 hv.1 hv.2,hlt⟩
 | leap j e0 =>
  show dm L rs (if e0.val (fP s.ps)=0 then⟨s.row+1,s.ps,s.held⟩ else⟨j.toNat,s.ps,s.held⟩)
  split
  . exact ⟨h.pk,hlt⟩
  . exact ⟨h.pk,by have:=hr.2.1;show YO _<=rs.length;omega⟩
 | _=>exact ⟨h.pk,hlt⟩
theorem mN(hr : ∀ r ∈ rs, fO L rs.length r) : ∀ n s, dm L rs s -> dm L rs (bV rs n s)
  | 0, s, h => by unfold bV; split; · exact h
                  . exact ⟨h.pk, Nat.le_refl _⟩
  | n + 1, s, h => by
    unfold bV; split
    . exact h
    . split
      . exact h
      . rename_i r e; exact mN hr n _ (kD h (hr r (UR e)) e)
theorem j5{rs:List Rw}{s:fY}(e:rs[s.row]?=fv r):cR (rs.map bC) (s.row)=fv (bC r):=P3.c9 rfl (by simp_all)
section
variable{pg:Tb}(T:bD pg)
include T
theorem L0 k h r held:run pg (k+1) "is_own_row" [bC r,jk held] h= .ok (.bl (own held r)) h:=by
 rw[run_eq T.rn rfl];cases r<;>simp? [dW,jR,bC,Rw.w,Rw.ps,jk,own]
theorem zQ k h (hL:L.length<=20) (hs:dm L rs s) (hr:fO L rs.length r) (hrow:rs[s.row]?=fv r):run pg (k+9) "behind_own_row" [bC r,aw s] h= .ok (aw (behind s r)) h:=by
 have nd:=hs.pk.nd;have hm:=λq m=>(hs.pk.mem q m).2;have hl:=hs.pk.len;have w: ∀ e:Sm,nV e->run pg (k+8) "worth" [iM e,uC s.ps] h= .ok (.int (e.val (fP s.ps))) h:=λe he=>ib T h nd hm (by omega) e (k+7) he.1 (by have:=he.2;omega);rw[run_eq T.kJ rfl];cases r with
 | let_ x e =>
  have hb:=(kD hs hr hrow).pk.len
  have l1:=xq T (k+7) h nd x (e.val (fP s.ps)) (Va hb hL) (by omega)
  simp? [bq,bY,bC,Rw.w,Rw.ps,aw,behind,w e hr.2,l1]
  rfl
 | leap j e =>
  simp? [bq,bY,bC,Rw.w,Rw.ps,aw,behind,w e hr.2.2]
  by_cases z:e.val (fP s.ps)=0
  . simp_all
  . have:((j.toNat))=j:=by have:=hr.1;omega
    simp only[z,if_false,this]
 | _ =>
  simp? [bq,bY,bC,Rw.w,Rw.ps,aw,behind]
  rfl
theorem kf k h (hs:s.row<=rs.length):run pg (k+2) "is_rested" [fU rs,aw s] h= .ok (.bl (bI rs s)) h:=by
 rw[run_eq T.uE rfl];cases e:rs[s.row]? with
 | none =>
  have:s.row=rs.length:=by grind
  have r1:bI rs s=true:=by unfold bI;rw[e]
  simp? [dI,iu,fU,aw,r1,this,UE]
 | some r =>
  have hlt:=(UJ.mp e).1
  have ne: ¬ (s.row)=(rs.length:Int):=by omega
  have ix:=k4 (h:=h) (j5 e)
  have o1:=L0 T k h r s.held
  simp? [dI,iu,fU,aw,bI,e,ne,ix,o1,UE]
def lh(p:PV) j (rs:List Rw):= ∃ a b c d hs nm,p= .tup [a,b,c,d,.tup hs]/\cR hs j=fv (.tup [nm,fU rs])
theorem jv k h (hp:lh p j rs):run pg (k+1) "rows_of" [p,.int j] h= .ok (fU rs) h:=by
 obtain⟨a,b,c,d,hs,nm,rfl,e⟩:=hp;rw[run_eq T.zf rfl];simp? [iN,pY,k4 e]
theorem fX k h (hL:L.length<=20) (hp:lh p j rs) (hr: ∀ r∈rs,fO L rs.length r) (hs:dm L rs s):run pg (k+10) "rested" [p,.int j,aw s] h= .ok (aw (bV rs 200 s)) h:=by
 have rest: ∀ xs xs0 s0 s tv,dm L rs s ->
   ((bh ⟨UB,xs0⟩ (bc (gN 5) (ag (bB (aA (ae "is_rested" (a2 (aa 3) (aa 4)))) (ar (aa 4)) bF) (ai (ae "behind_own_row" (ab (ao aG (aa 3) (eX 4 0)) (a1 (aa 4)))) (gN 4))) (run pg (k+9))) xs
    [fv p,fv (.int j),fv (aw s0),fv (fU rs),fv (aw s),tv] h).bind
    (zS (ag (bB (aA (ae "is_rested" (a2 (aa 3) (aa 4)))) (ar (aa 4)) bF) (ar (av (ab (eB bH (a1 (aa 3))) (a2 (eX 4 1) (eX 4 2)))))) (run pg (k+9))))= .ok (.rt (aw (bV rs xs.length s))) h:=by
  intro xs xs0 s0
  induction xs with
  | nil =>
   intro s tv hs
   have q:=kf T (k+7) h hs.le
   simp? [eK,bV,q]
   cases bI rs s<;>simp? [aw,fU,UE]
  | cons x xs ih =>
   intro s tv hs
   have q:=kf T (k+7) h hs.le
   rw[dq]
   simp? [bV,q]
   cases e:rs[s.row]? with
   | none =>
    have r1:bI rs s=true:=by unfold bI;rw[e]
    simp? [r1,D3]
   | some r =>
    cases r1:bI rs s with
    | true=>rfl
    | false =>
     have hm:=hr r (UR e)
     have ix:=k4 (h:=h) (j5 e)
     have be:=zQ T k h hL hs hm e
     have i0:aG (aw s) (.int 0) h= .ok (.int s.row) h:=rfl
     have ix':aG (fU rs) (.int s.row) h= .ok (bC r) h:=ix
     simp? [r1,i0,ix',be,bT,ih _ _ (kD hs hm e)]
 rw[run_eq T.Dd rfl];have ro:=jv T (k+8) h hp;simp? [kj,sY,ro];have hh:=rest (ak 0 200) (ak 0 200) s s UB hs;have len:(ak 0 200).length=200:=rfl;rw[len] at hh;exact(congrArg (fin h) hh).trans (by rw[iK,lu])
end
section
variable{pg:Tb}(T:bD pg)
include T
theorem o9 k h (hL:L.length<=20) (hp:lh p j rs) (hr: ∀ r∈rs,fO L rs.length r):run pg (k+11) "first_seat" [p,.int j] h= .ok (aw (bV rs 200 ⟨0,[],[]⟩)) h:=by
 have:=fX T k h hL hp hr (s:=⟨0,[],[]⟩) ⟨.nil,Vw _⟩;rw[run_eq T.rL rfl];have e:PV.tup [.int 0,.tup [],.tup []]=aw ⟨0,[],[]⟩:=rfl;simp? [ef,ko,e,this]
end
noncomputable def Rw.fR:Rw->Option Str
 | .get x _=>fv x | .fetch x _=>fv x | .clock x=>fv x | .lot x _=>fv x | .hear x _=>fv x
 | _=>UB
noncomputable def Rw.sum:Rw->Option Sm
 | .let_ _ e=>fv e | .leap _ e=>fv e | .put _ e=>fv e | .send _ e=>fv e | .say _ e=>fv e
 | _=>UB
theorem fO.sum(h:fO L n r)(q:r.sum=fv e):nV e:=by
 cases r<;>cases q
 . exact h.2
 . exact h.2.2
 . exact h
 . exact h
 . exact h
noncomputable def PV.num:PV->Int
 | .int i=>i
 | _=>0
def after(s:fY)(v:PV):Rw->fY
 | .get x _=>⟨s.row+1,lay s.ps x (PV.num v),s.held⟩
 | .fetch x _=>⟨s.row+1,lay s.ps x (PV.num v),s.held⟩
 | .clock x=>⟨s.row+1,lay s.ps x (PV.num v),s.held⟩
 | .lot x _=>⟨s.row+1,lay s.ps x (PV.num v),s.held⟩
 | .hear x _=>⟨s.row+1,lay s.ps x (PV.num v),s.held⟩
 | .take l=>⟨s.row+1,s.ps,dJ (s.held++[l])⟩
 | .free l=>⟨s.row+1,s.ps,s.held.filter λz=> !decide (z=l)⟩
 | _=>⟨s.row+1,s.ps,s.held⟩
def bj(s:fY):Rw->PV
 | .let_ _ e=> .tup [.str "let",.str "",.int (e.val (fP s.ps))]
 | .leap k e=> .tup [.str "leap",.int k,.int (e.val (fP s.ps))]
 | .take l=> .tup [.str "take",.str l,.non]
 | .free l=> .tup [.str "free",.str l,.non]
 | .get _ b=> .tup [.str "get",.str b,.non]
 | .put b e=> .tup [.str "put",.str b,.int (e.val (fP s.ps))]
 | .send l e=> .tup [.str "send",.str l,.int (e.val (fP s.ps))]
 | .fetch _ l=> .tup [.str "fetch",.str l,.non]
 | .say d e=> .tup [.str "say",.str d,.int (e.val (fP s.ps))]
 | .clock _=> .tup [.str "clock",.str "",.non]
 | .lot _ n=> .tup [.str "lot",.str "",.int n]
 | .hear _ d=> .tup [.str "hear",.str d,.non]
def lx(rs:List Rw)(s:fY):PV:=match rs[s.row]? with
 | none=> .non
 | some r=>bj s r
theorem eE: ∀ ss ,cz (ss.map PV.str)=fv ss
 | []=>rfl
 | x::r=>by rw[UP,cz,eE r];rfl
theorem vf(hl:ss.length < 64):dG [.tup (ss.map PV.str)] h= .ok (.ref h.length) (h++[.lst ((dJ ss).map PV.str)]):=by
 simp only[dG,eE,if_pos hl]
theorem uv:eW (x::xs) (fv 1) UB=xs:=by rw[P3.nu (by decide)];rfl
def Rw.parts:Rw->List PV
 | .let_ _ _=>[.str "pocket",.str "sum"] | .leap _ _=>[.str "target",.str "sum"] | .get _ _=>[.str "pocket",.str "box"] | .put _ _=>[.str "box",.str "sum"]
 | .take _=>[.str "lock"] | .free _=>[.str "lock"] | .send _ _=>[.str "lane",.str "sum"] | .fetch _ _=>[.str "pocket",.str "lane"] | .say _ _=>[.str "door",.str "sum"]
 | .clock _=>[.str "pocket"] | .lot _ _=>[.str "pocket",.str "chances"] | .hear _ _=>[.str "pocket",.str "door"]
theorem DW(r:Rw):cv dH (.inr r.w)=fv (.ktup r.parts):=by cases r<;>(simp only[Rw.w,Rw.parts];decide +kernel)
theorem ig l: ∀ ss:List Str,(ss.filterMap λz=>if z=l then UB else fv (PV.str z))=(ss.filter (λz=> !decide (z=l))).map PV.str
 | []=>rfl
 | q::r=>by
  by_cases z:q=l
  . rw[WY (by simp[z]),VB (by simp[z]),ig l r]
  . rw[WZ (by rw[if_neg z]),Vn (by simp[z]),UP,ig l r]
def toG:=(gT 2 (aI (gN 7) (aI (gN 8) cZ)))
def zN:=(bB (mQ (aa 7) (eS "sum")) (ai (ae "worth" (a2 (aa 8) (eX 2 1))) (gN 6)) (bB (mQ (aa 7) (eS "chances")) (ai (aa 8) (gN 6)) (bB (aA (ao g7 (aa 7) (eS "pocket"))) (ai (aa 8) (gN 5)) bF)))
section
variable{c:CF}{h:PH}{a0 a1 b0 b1 a3 a4 a5 a6 a7 a8 x:Option PV}{y s1 w:PV}
theorem nI(q: ∀ g,aG s1 (.int 1) g= .ok b g)(z:c "worth" [y,b] h= .ok w h):bc toG zN c (.tup [.str "sum",y]) [a0,a1,fv s1,a3,a4,a5,a6,a7,a8] h= .ok (.nx [a0,a1,fv s1,a3,a4,a5,fv w,fv (.str "sum"),fv y]) h:=by
 simp? [toG,zN,q,z]
theorem PZ:bc toG zN c (.tup [.str "chances",y]) [a0,a1,b0,a3,a4,a5,a6,a7,a8] h= .ok (.nx [a0,a1,b0,a3,a4,a5,fv y,fv (.str "chances"),fv y]) h:=by
 rfl
theorem xX:bc toG zN c (.tup [.str "pocket",y]) [a0,a1,b0,a3,a4,a5,a6,a7,a8] h= .ok (.nx [a0,a1,b0,a3,a4,a5,a6,fv (.str "pocket"),fv y]) h:=by
 rfl
theorem nE{p:Str}(q: ¬ p= "sum" /\ ¬ p= "chances" /\ ¬ p= "pocket"):bc toG zN c (.tup [.str p,y]) [a0,a1,b0,a3,a4,a5,a6,a7,a8] h= .ok (.nx [a0,a1,b0,a3,a4,fv y,a6,fv (.str p),fv y]) h:=by
 simp? [toG,zN,q.1,q.2.1,q.2.2]
end
theorem FX{c:CF}{h:PH}(s:fY)(r:Rw)(w: ∀ e:Sm,r.sum=fv e->c "worth" [iM e,uC s.ps] h= .ok (.int (e.val (fP s.ps))) h)(xs:List PV)(a0 a1 a3 a4:Option PV) :
  ∃(t v:PV)(u7 u8:Option PV),bj s r= .tup [.str r.w,t,v]/\bh ⟨UB,xs⟩ (bc toG zN c) ((r.parts.zip r.ps).map λp=> .tup [p.1,p.2]) [a0,a1,fv (aw s),a3,a4,fv (.str ""),fv .non,UB,UB] h= .ok (.nx [a0,a1,fv (aw s),a3,a4,fv t,fv v,u7,u8]) h:=by
 have i1: ∀ g,aG (aw s) (.int 1) g= .ok (uC s.ps) g:=λg=>rfl;have lp1: ∀{x:PV}{e e1:aZ},bc toG zN c x e h= .ok (.nx e1) h->bh ⟨UB,xs⟩ (bc toG zN c) [x] e h= .ok (.nx e1) h:=λq=>by rw[dq,q,ck,bT,eK]
 have lp2: ∀{x y:PV}{e e1 e2:aZ},bc toG zN c x e h= .ok (.nx e1) h->bc toG zN c y e1 h= .ok (.nx e2) h->bh ⟨UB,xs⟩ (bc toG zN c) [x,y] e h= .ok (.nx e2) h:=λq q2=>by rw[dq,q,ck,bT,dq,q2,ck,bT,eK]
 cases r with
 | let_ x e=>exact⟨_,_,_,_,rfl,lp2 xX (nI i1 (w e rfl))⟩
 | leap x e=>exact⟨_,_,_,_,rfl,lp2 (nE (by decide +kernel)) (nI i1 (w e rfl))⟩
 | put x e=>exact⟨_,_,_,_,rfl,lp2 (nE (by decide +kernel)) (nI i1 (w e rfl))⟩
 | send x e=>exact⟨_,_,_,_,rfl,lp2 (nE (by decide +kernel)) (nI i1 (w e rfl))⟩
 | say x e=>exact⟨_,_,_,_,rfl,lp2 (nE (by decide +kernel)) (nI i1 (w e rfl))⟩
 | take x=>exact⟨_,_,_,_,rfl,lp1 (nE (by decide +kernel))⟩
 | free x=>exact⟨_,_,_,_,rfl,lp1 (nE (by decide +kernel))⟩
 | clock x=>exact⟨_,_,_,_,rfl,lp1 xX⟩
 | lot x n=>exact⟨_,_,_,_,rfl,lp2 xX PZ⟩
 | _=>exact⟨_,_,_,_,rfl,lp2 xX (nE (by decide +kernel))⟩
theorem rw_0 r g:aG (bC r) (.int 0) g= .ok (.str r.w) g:=qI
theorem rw_pk(h:r.fR=fv x) g:aG (bC r) (.int 1) g= .ok (.str x) g:=by cases r<;>cases h<;>exact vn
theorem fO.pk(h:fO L n r)(q:r.fR=fv x):x∈L:=by
 cases r<;>cases q<;>first | exact h | exact h.1
theorem nN(h:r.fR=fv x):after s v r=⟨s.row+1,lay s.ps x (PV.num v),s.held⟩:=by cases r<;>cases h<;>rfl
theorem PQ{r:Rw}(h:r.fR=fv x):r.w∈(["get", "fetch", "clock", "lot", "hear"]:List Str)∧ ¬ r.w= "take" /\ ¬ r.w= "free" :=by cases r<;>cases h<;>(simp only [Rw.w];decide +kernel)
theorem rw_cls(r:Rw):(∃ x,r.fR=fv x)∨(∃ l,r= .take l)∨(∃ l,r= .free l)∨((¬ r.w∈(["get", "fetch", "clock", "lot", "hear"]:List Str)∧ ¬ r.w= "take" /\ ¬ r.w= "free")∧ ∀ s v,after s v r=⟨s.row+1,s.ps,s.held⟩):=by
 cases r with
 | take l=>exact .inr (.inl ⟨l,rfl⟩)
 | free l=>exact .inr (.inr (.inl ⟨l,rfl⟩))
 | get x _=>exact .inl ⟨x,rfl⟩
 | fetch x _=>exact .inl ⟨x,rfl⟩
 | clock x=>exact .inl ⟨x,rfl⟩
 | lot x _=>exact .inl ⟨x,rfl⟩
 | hear x _=>exact .inl ⟨x,rfl⟩
 | _=>exact .inr (.inr (.inr ⟨by simp only[Rw.w];decide +kernel,λ_ _=>rfl⟩))
section
variable{pg:Tb}(T:bD pg)
include T
theorem iq k h (hL:L.length<=20) (hp:lh p j rs) (hr: ∀ r∈rs,fO L rs.length r) (hs:dm L rs s):run pg (k+10) "touch_of" [p,.int j,aw s] h= .ok (lx rs s) h:=by
 have nd:=hs.pk.nd;have hm:=λq m=>(hs.pk.mem q m).2;have hl:=hs.pk.len;have w: ∀ e:Sm,nV e->run pg (k+9) "worth" [iM e,uC s.ps] h= .ok (.int (e.val (fP s.ps))) h:=λe he=>ib T h nd hm (by omega) e (k+8) he.1 (by have:=he.2;omega);have ro:=jv T (k+8) h hp;have ro':run pg (k+9) "rows_of" [p,.int j] h= .ok (.tup (rs.map bC)) h:=ro;rw[run_eq T.wR rfl];cases e:rs[s.row]? with
 | none =>
  have:s.row=rs.length:=by have:=Xx.mp e;have:=hs.le;omega
  have t1:lx rs s= .non:=by unfold lx;rw[e]
  simp? [eG,jy,aw,t1,this,ro',UE]
 | some r =>
  have hlt:=(UJ.mp e).1
  have ne: ¬ (s.row)=(rs.length:Int):=by omega
  have ix:=k4 (h:=h) (j5 e)
  have hrr:=hr r (UR e)
  have t1:lx rs s=bj s r:=by unfold lx;rw[e]
  rw[t1]
  have w':=λe q=>w e (hrr.sum q)
  obtain⟨t,v,u7,u8,et,lp⟩:=FX (h:=h) s r w' ((r.parts.zip r.ps).map λp=> .tup [p.1,p.2]) (fv p) (fv (.int j)) (fv (.tup (rs.map bC))) (fv (bC r))
  have r_0:=λg=>rw_0 r g
  have i0: ∀ g,aG (aw s) (.int 0) g= .ok (.int s.row) g:=λg=>rfl
  have sl: ∀ g,E5 (bC r) (fv 1) UB g= .ok (.tup r.ps) g:=λg=>by unfold bC;rw[Pw,uv]
  have at_r:=ix
  rw[et]
  unfold toG zN at lp
  simp? [eG,jy,i0,ro',ne,at_r,r_0,sl,DW,lp,UE]
theorem nA k h (hL:L.length<=20) (hp:lh p j rs) (hr: ∀ r∈rs,fO L rs.length r) (hs:dm L rs s) (hh:s.held.length<=60) (e:rs[s.row]?=fv r) (hv: ∀ x,r.fR=fv x-> ∃ i ,v= .int i/\0<=i/\i<=999):run pg (k+11) "seat_behind" [p,.int j,aw s,v] h= .ok (aw (bV rs 200 (after s v r))) h:=by
 have ro:=jv T (k+9) h hp;have ro':run pg (k+10) "rows_of" [p,.int j] h= .ok (.tup (rs.map bC)) h:=ro;have hlt:=(UJ.mp e).1;have ix:=k4 (h:=h) (j5 e);have hrr:=hr r (UR e);have ink: ∀ a:Str,j8 (.str a) (.ktup [(.str "get"),(.str "fetch"),(.str "clock"),(.str "lot"),(.str "hear")]) h= .ok (.bl (decide (a∈(["get", "fetch", "clock", "lot", "hear"]:List Str)))) h:=λa=>in_K (ss:=["get", "fetch", "clock", "lot", "hear"]);rw [run_eq T.pd rfl];have r0:run pg (k+10) "rested" [p,.int j,.tup [.int ((s.row:Int)+1),uC s.ps,jk s.held]] h= .ok (aw (bV rs 200 ⟨s.row+1,s.ps,s.held⟩)) h:=fX T k h hL hp hr (s:=⟨s.row+1,s.ps,s.held⟩) ⟨hs.pk,hlt⟩;have r_0:=λg=>rw_0 r g;have at_r:=ix;rcases rw_cls r with⟨x,hx⟩ | ⟨l,rfl⟩ | ⟨l,rfl⟩ | ⟨⟨n5,nt,nf⟩,af⟩
 . obtain⟨i,rfl,h0,h9⟩:=hv x hx;have li:=vF hs.pk (hrr.pk hx) h0 h9;have l1:=xq T (k+9) h hs.pk.nd x i (Va li.len hL) (by have:=hs.pk.len;omega);have r1:run pg (k+10) "rested" [p,.int j,.tup [.int ((s.row:Int)+1),uC (lay s.ps x i),jk s.held]] h=_:=fX T k h hL hp hr (s:=⟨s.row+1,lay s.ps x i,s.held⟩) ⟨li,hlt⟩;have n5:=(PQ hx).1;have x1:=λg=>rw_pk hx g;rw[nN hx];simp? [bE,cy,aw,ro',at_r,r_0,x1,ink,n5,l1,r1,PV.num]
 . have r1:=fX T k (h++[.lst ((dJ (s.held++[l])).map PV.str)]) hL hp hr (s:=⟨s.row+1,s.ps,dJ (s.held++[l])⟩) ⟨hs.pk,hlt⟩;have r1':run pg (k+10) "rested" [p,.int j,.tup [.int ((s.row:Int)+1),uC s.ps,.tup ((dJ (s.held++[l])).map PV.str)]] (h++[.lst ((dJ (s.held++[l])).map PV.str)])=_:=r1;have s1:=vf (h:=h) (ss:=s.held++[l]) (by simp;omega);rw[Wa] at s1;have hl2:(s.held.map PV.str).length+1<=16777216:=by simp;omega
   have s1':dG [.tup (s.held.map PV.str++[.str l])] h= .ok (.ref h.length) (h++[.lst ((dJ (s.held++[l])).map PV.str)]):=s1;simp? [bE,cy,aw,jk,ro',ix,bC,Rw.w,Rw.ps,ink,UW,Vc,or_false,or_true,true_or,false_or,after,UE,s1',r1'];exact aF (jE _)
 . have e1: ∀ e ,e=[fv p,fv (.int j),fv (aw s),fv v,fv (bC (.free l)),fv (uC s.ps),fv (jk s.held)]->ia ⟨UB,s.held.map PV.str⟩ (aX 1 (gN 7) (aA (ao g7 (aa 7) (eX 4 1))) (aa 7) (run pg (k+10)) e) (s.held.map PV.str) [] h= .ok ((s.held.filter (λz=> !decide (z=l))).map PV.str) h:=by
    rintro _ rfl;rw[<- ig];refine(dC rfl s.held [] (λq m=>?_) (by simp;omega)).trans (by rfl);simp? [bC,Rw.w,Rw.ps];by_cases z:q=l<;>simp[z]
   have e1':=e1 _ rfl;have r1:=fX T k (h++[.lst ((s.held.filter (λz=> !decide (z=l))).map PV.str)]) hL hp hr (s:=⟨s.row+1,s.ps,s.held.filter (λz=> !decide (z=l))⟩) ⟨hs.pk,hlt⟩;have r1':run pg (k+10) "rested" [p,.int j,.tup [.int ((s.row:Int)+1),uC s.ps,.tup ((s.held.filter (λz=> !decide (z=l))).map PV.str)]] (h++[.lst ((s.held.filter (λz=> !decide (z=l))).map PV.str)])=_:=r1;simp only[bC,aw,jk,Rw.w,Rw.ps] at e1';simp? [bE,cy,aw,jk,ro',ix,bC,Rw.w,Rw.ps,ink,UW,Vc,or_false,or_true,true_or,false_or,after,UE,e1',r1'];exact aF (jE _)
 . rw[af];simp? [bE,cy,aw,ro',at_r,r_0,ink,n5,nt,nf,r0]
end
structure Qr(L:List Str)(D:Pk):Prop where
 nd:(D.map (·.1)).Nodup
 mem: ∀ q∈D,q.1∈L/\0<=q.2/\q.2<=999
theorem Qr.Aa(h:Qr L D): ∀ x,0<=fP D x/\fP D x<=999:=λx=>by
 by_cases hx:x∈D.map (·.1)
 . obtain⟨q,m,rfl⟩:=Vg.mp hx;rw[Ll h.nd q m];exact(h.mem q m).2
 . rw[Lg hx];decide
theorem Qr.len(h:Qr L D):D.length<=L.length:=by
 have:=Yj h.nd (l₂ :=L) (λx hx=>by obtain⟨q,hq,rfl⟩:=Vg.mp hx;exact(h.mem q hq).1);simpa using this
theorem tJ s r:(behind s r).held=s.held:=by
 cases r with
 | leap j e0=>show(if e0.val (fP s.ps)=0 then(⟨s.row+1,s.ps,s.held⟩:fY) else⟨j.toNat,s.ps,s.held⟩).held=s.held;split<;>rfl
 | _=>rfl
theorem aO{a b:MS}{c:CF}{e e1:aZ}{h h1:PH}(q:a c e h= .ok (.nx e1) h1):ag a b c e h=b c e1 h1:=by rw[Ap,q,ck,xp]
theorem gM ss:(dJ ss).Perm ss:=XA ss _
theorem yy(nd:ss.Nodup):(dJ ss).Pairwise iO:=by
 have h1:=Xa gc (λa b=>by simpa using iQ a b) ss;have h2:=(gM ss).nodup_iff.mpr nd;refine h1.imp₂ (λa b z1 z2=>?_) h2;rcases kZ z2 with z | z
 . exact z
 . unfold oN at z1;simp[z] at z1
theorem dv: ∀ n s,(bV rs n s).held=s.held
 | 0,s=>by unfold bV;split<;>rfl
 | n+1,s=>by
  unfold bV;split
  . rfl
  . split
    . rfl
    . rw[dv n,tJ]
noncomputable def aC(ns:List Int):PO:= .jX (ns.map PV.int)
abbrev Tp:=Int × Int × Nat
noncomputable def aB(t:Tp):PO:= .lst [.ref 0,.int t.1,.int t.2.1,.int ((t.2.2:Nat):Int)]
theorem Ms{t:Tp}{n:Nat}:(aB t).i6 (n+1)=true:=by simp[aB,PO.i6,PV.jw,PV.i6]
section
variable{h:PH}{n:Nat}{x y z w v:PV}{fr:PO}{q q':Tp}{g g':PH}
theorem Cq:A5 n (.int 1) v h (fv (.lst [x,y,z,w]))= .ok () (h.set n (.lst [x,v,z,w])):=rfl
theorem CI:A5 n (.int 2) v h (fv (.lst [x,y,z,w]))= .ok () (h.set n (.lst [x,y,v,w])):=rfl
theorem Mr:A5 n (.int 3) v h (fv (.lst [x,y,z,w]))= .ok () (h.set n (.lst [x,y,z,v])):=rfl
theorem ee(hv:v.flat=true):P3.settle (fr::aB q::g) v (fr::aB q'::(g++g'))= .ok v (fr::aB q'::g) :=
 vj (h:=fr::aB q::g) (g:=g') (i:=1) (o:=aB q) (o':=aB q') hv rfl rfl Ms
theorem f9:P3.settle (fr::aB q::g) v (fr::aB q'::g)= .ok v (fr::aB q'::g):=uw (h:=fr::aB q::g) (i:=1) (o:=aB q) (o':=aB q')
end
theorem Mi{xs:List PV}{c:Int}(c0:0<=c)(c1:c < xs.length): ∃ x∈xs,cR xs c=fv x:=by
 obtain⟨n,rfl⟩:=We c0;exact⟨xs[n]'(by omega),Ws _,P3.c9 rfl (UQ (by omega))⟩
theorem hU{ss:List Str}{v:Int}(h0:0<=v)(h1:v < ss.length): ∃ x∈ss,cR (ss.map PV.str) v=fv (.str x):=by
 obtain⟨n,en⟩:=We h0;subst en;have hn:n < ss.length:=by omega
 exact⟨ss[n],Ws hn,P3.c9 rfl (by rw[U1,UQ hn];rfl)⟩
theorem jq{xs:List Int}{v:Int}(h0:0<=v)(h1:v < xs.length): ∃ x∈xs,cR (xs.map PV.int) v=fv (.int x):=by
 obtain⟨n,en⟩:=We h0;subst en;have hn:n < xs.length:=by omega
 exact⟨xs[n],Ws hn,P3.c9 rfl (by rw[U1,UQ hn];rfl)⟩
def OH:MS:=(bB (lX (mQ (eX 0 2) (eI 0)) (aA (ao vc (eX 0 3) (eB bH (a1 (aa 2)))))) (ag (pI mS (aa 0) (eI 2) (ao ic (eB BH (ab (ao aG (aa 2) (eX 0 3)) ah)) (ao Dc (eI 10) (eI 18))))
  (pI mS (aa 0) (eI 3) (ao aL (eX 0 3) (eI 1)))) bF)
def QQ:MS:=(bB (aA (ao L8 (eB bH (a1 (aa 2))) (eI 0))) (ai (ao aG (aa 2) (ao gz (eX 0 1) (eB bH (a1 (aa 2))))) (gN 4)) bF)
section
variable{pg:Tb}(T:bD pg)
include T
theorem aR(j:Nat)(ns:List Int)(t:Tp)(m:Int)(m0:0 < m)(m9:m<=1000000): ∃(v:Int)(t':Tp),0<=v/\v < m/\ ∀ g,run pg (j+1) "_law_draw" [.ref 1,.int m] (aC ns::aB t::g)= .ok (.int v) (aC ns::aB t'::g):=by
 obtain⟨a,b,c⟩:=t;have b0: ∀{q q':Tp}{g:PH}{v:PV},P3.settle (aC ns::aB q::g) v (aC ns::aB q'::g)= .ok v (aC ns::aB q'::g):=f9;have ln: ∀ g',bH [.ref 0] (aC ns::g')= .ok (.int ns.length) (aC ns::g'):=λg'=>by rw[PL (xs:=ns.map PV.int) rfl,UE]
 have ixs: ∀(i:Int)(x:Int) g',cR (ns.map PV.int) i=fv (.int x)->aG (.ref 0) (.int i) (aC ns::g')= .ok (.int x) (aC ns::g'):=λi x g' e=>by rw[Fe];show M3 _ _ (fv (.jX _))=_;rw[PY,e];rfl
 have t18:(10:Int) ^ YO 18=1000000000000000000:=by decide +kernel
 have mm:0 < m/\m < 18446744073709551616:=by omega
 obtain⟨b1,c1,A⟩: ∃(b1:Int)(c1:Nat),∀(e:aZ) g,e=[fv (.ref 1),fv (.int m),fv (.ref 0),UB,UB,UB]->OH (run pg j) e (aC ns::aB (a+1,b,c)::g)= .ok (.nx e) (aC ns::aB (a+1,b1,c1)::g):=by
  by_cases z:b=0
  . by_cases y:(c:Int) < ns.length
    . obtain⟨x,_,ex⟩:=jq (xs:=ns) (v:=(c:Int)) (by omega) y;refine⟨(if x < 0 then -x else x) / 1000000000000000000,c+1,λe g he=>?_⟩;subst he;subst z;have ix:=λg'=>ixs c x g' ex;simp only[aB];simp? (disch:=first | omega | exact mm) only[OH,ln,y,ix,t18,pN,qW,rB,CI,Mr];rfl
    . refine⟨b,c,λe g he=>?_⟩;subst he;subst z;simp only[aB];simp? (disch:=first | omega | exact mm) only[OH,ln,y,pN,qW,rB]
  . refine⟨b,c,λe g he=>?_⟩;subst he;simp only[aB];simp? (disch:=first | omega | exact mm) only[OH,z,pN,qW,rB]
 obtain⟨x,B⟩: ∃ x:Int,∀(b1:Int)(c1:Nat) g,QQ (run pg j) [fv (.ref 1),fv (.int m),fv (.ref 0),UB,fv (.int 0),UB] (aC ns::aB (a+1,b1,c1)::g)= .ok (.nx [fv (.ref 1),fv (.int m),fv (.ref 0),UB,fv (.int x),UB]) (aC ns::aB (a+1,b1,c1)::g):=by
  by_cases y:0 < (ns.length:Int)
  . obtain⟨x,_,ex⟩:=jq (xs:=ns) (v:=(a+1) % (ns.length:Int)) (Wn _ (by omega)) (WK _ y);refine⟨x,λb1 c1 g=>?_⟩;have ix:=λg'=>ixs _ x g' ex;simp only[aB];simp? (disch:=first | omega | exact mm) only[QQ,ln,y,ix,pN,qW,rB]
  . refine⟨0,λb1 c1 g=>?_⟩;simp only[aB];simp? (disch:=first | omega | exact mm) only[QQ,ln,y,pN,qW,rB]
 have A':=λg=>A _ g rfl;unfold OH at A';unfold QQ at B;by_cases z:0 < b1
 . refine⟨b1 % m,(a+1,b1 / m,c1),Wn _ (by omega),WK _ m0,λg=>?_⟩;rw[run_eq T.lE rfl];simp only[aB] at A' B b0 ⊢;simp? (disch:=first | omega | exact mm) only[dO,iG,↓A',z,Af,pN,qW,rB,Cq,CI];exact b0 (q:=(a,b,c)) (q':=(a+1,b1 / m,c1))
 . let u:Int:=(x % 2147483647*48271+(a+1)*7919+12345) % 2147483629
   have u0:0<=u:=Wn _ (by decide);have u1:u < 2147483629:=WK _ (by decide)
   let w:Int:=u*(u+40692) % 2147483587
   have w0:0<=w:=Wn _ (by decide);have w1:w < 2147483587:=WK _ (by decide);refine⟨w*16807 % 2147483563 % m,(a+1,b1,c1),Wn _ (by omega),WK _ m0,λg=>?_⟩;have m1: ∀(i:Int) h,cb (.int i) (.int 48271) h= .ok (.int (i*48271)) h:=λi h=>qC (by omega);have m2: ∀(i:Int) h,cb (.int i) (.int 7919) h= .ok (.int (i*7919)) h:=λi h=>qC (by omega);have m3: ∀ h,cb (.int u) (.int (u+40692)) h= .ok (.int (u*(u+40692))) h:=λh=>rM (by omega);have m4: ∀(i:Int) h,cb (.int i) (.int 16807) h= .ok (.int (i*16807)) h:=λi h=>qC (by omega);have eu:(x % 2147483647*48271+(a+1)*7919+12345) % 2147483629=u:=rfl;have ew:u*(u+40692) % 2147483587=w:=rfl
   clear_value w
   clear_value u
   rw[run_eq T.lE rfl];simp only[aB] at A' B b0 ⊢;simp? (disch:=first | omega | exact mm) only[dO,iG,↓A',↓B,z,Af,pN,qW,rB,Cq,m1,m2,m3,m4,eu,ew];exact b0 (q:=(a,b,c)) (q':=(a+1,b1,c1))
theorem D5(j:Nat)(ns:List Int):run pg (j+1) "_law_tape" [.ref 0] [aC ns]= .ok (.ref 1) [aC ns,aB (0,0,0)]:=by
 rw[run_eq T.uU rfl];simp? [fE,lR];exact bg rfl
end
noncomputable def qY(x:Str):=decide (x.cps.size<=20)&&x.cps.toList.all λc=>decide (c < 16 ^ 8)
mutual
def wU:PV->Bool
 | .non=>true
 | .int i=>decide (0<=i/\i<=1000000)
 | .str x=>qY x
 | .tup xs=>ki xs
 | _=>false
def ki:List PV->Bool
 | []=>true
 | x::r=>wU x&&ki r
end
mutual
def G9:PV->Nat
 | .str x=>x.cps.size
 | .tup xs=>Ho xs
 | _=>0
def Ho:List PV->Nat
 | []=>0
 | x::r=>G9 x+1+Ho r
end
mutual
def EZ:PV->Nat
 | .tup xs=>tq xs+1
 | _=>0
def tq:List PV->Nat
 | []=>0
 | x::r=>max (EZ x) (tq r)
end
theorem lK(h0:0<=i)(h9:i<=1000000):(Y2 i).shown.length<=13:=PyData.shown_int_le (by omega)
theorem y7{i:Int}(h0:0<=i)(h9:i<=1000000):i.natAbs.log2 < 1920:=by
 by_cases z:i.natAbs=0
 . rw[z];decide
 . rw[abJ z];exact US (show i.natAbs < 2 ^ 20 by omega) (Nat.pow_le_pow_right (by decide) (by decide))
mutual
theorem wU.d: ∀(v:PV),wU v=true-> ∃ d:Xo,(∀ sub,iL sub v=fv d)/\d.showable=true/\d.hasDict=false/\d.depth=EZ v/\d.bulk=G9 v/\XY 13 d=true
 | .non,_=>⟨.none,λ_=>rfl,rfl,rfl,rfl,rfl,rfl⟩
 | .int i,h=>by
  rw[wU,decide_eq_true_eq] at h;exact⟨.int i,λ_=>rfl,by rw[abO,decide_eq_true_eq];exact y7 h.1 h.2,rfl,rfl,rfl,by rw[XY,decide_eq_true_eq];exact lK h.1 h.2⟩
 | .str x,h=>by
  rw[wU,qY,U3] at h;exact⟨.str x,λ_=>rfl,rfl,rfl,rfl,rfl,by rw[XY];exact h.2⟩
 | .tup xs,h=>by
  rw[wU] at h;obtain⟨ds,e,h1,h2,h3,h4,h5⟩:=ki.d xs h;exact⟨.tuple ds,λsub=>by rw[iL,e];rfl,by rw[abO];exact h1,by rw[PyData.hasDict];exact h2,by rw[abk,h3,EZ],by rw[abK,h4,G9],by rw[XY];exact h5⟩
theorem ki.d: ∀(xs:List PV),ki xs=true-> ∃ ds:List Xo,(∀ sub,bA sub xs=fv ds)/\Y3 ds=true/\Zh ds=false/\Xg ds=tq xs/\aay ds=Ho xs/\Yf 13 ds=true
 | [],_=>⟨[],λ_=>rfl,rfl,rfl,rfl,rfl,rfl⟩
 | x::r,h=>by
  rw[ki,U3] at h;obtain⟨d,e,h1,h2,h3,h4,h5⟩:=wU.d x h.1;obtain⟨ds,e',i1,i2,i3,i4,i5⟩:=ki.d r h.2;exact ⟨d::ds,λsub=>by rw [bA,e,e'],by rw [Y3,h1,i1];rfl,by rw [Zh,h2,i2];rfl,by rw [Xg,h3,i3,tq],by rw [aay,h4,i4,Ho],by rw [Yf,h5,i5];rfl⟩
end
theorem Er{ys : List PV}{ds : List Xo}(h1 : Y3 ds = true)(h2 : Zh ds = false)(h3 : Xg ds <= 60)(h4 : aay ds <= 1000000)(h5 : Yf 13 ds = true) : y6 (.tuple ds) /\ y6 (.list ds) :=
  ⟨⟨by exact h1, by exact h2, by rw [abk]; omega, ZZ (B := 13) (by decide) (by decide) (by exact h5) (by rw [abK]; omega)⟩,
   ⟨by exact h1, by exact h2, by rw [abk]; omega, ZZ (B := 13) (by decide) (by decide) (by exact h5) (by rw [abK]; omega)⟩⟩
theorem FT(h:ki ys=true)(hd:tq ys<=60)(hb:Ho ys<=1000000): ∃ x ,∀ g,wt [.tup ys] g= .ok (.str x) g:=by
 obtain ⟨ds,e,h1,h2,h3,h4,h5⟩:=ki.d ys h;refine ⟨(YL ds).shown,λg=>?_⟩;have e2:dat 6 g (.tup ys)=fv (.tuple ds):=by unfold dat;rw[iL,e];rfl
 unfold wt;simp only[e2];exact if_pos (Er (ys:=ys) h1 h2 (by omega) (by omega) h5).1
theorem wc(h:qY x=true):x.cps.size<=20:=by rw[qY,U3,decide_eq_true_eq] at h;exact h.1
theorem jz: ∀ ss:List Str,bA f (ss.map PV.str)=fv (ss.map XZ)
 | []=>rfl
 | x::r=>by rw[UP,bA,jz r];rfl
theorem uI{ss:List Str}(e:h[n]?=fv (.lst (ss.map PV.str))):dat (k+1) h (.ref n)=fv (.list (ss.map XZ)):=by
 unfold dat;simp only[iL,e,jz,XS]
theorem ne_nil(e1:h[n]?=fv (.lst (ss.map PV.str)))(e2:h[m]?=fv (.lst []))(ok: ∀ x∈ss,VI x=true):g7 (.ref n) (.ref m) h= .ok (.bl (!decide (ss=[]))) h:=by
 have d1:=uI (k:=5) e1;have d2:=uI (k:=5) (ss:=[]) (n:=m) e2;have sc:jV (.ref n) (.ref m)=false:=rfl;have dp: ∀ xs:List Str,aaz (.list (xs.map XZ))=xs.all VI:=λxs=>by
  rw[aaz,YB]
 have al:alike (.ref n) (.ref m) h=fv (decide (ss=[])):=by
  unfold alike;rw[sc,d1,d2];have c1:(Xp (ss.map XZ)).canLay0=true:=by rw[dp];exact Xs.mpr ok
  have c2:(Xp (([]).map XZ)).canLay0=true:=by rfl
  have c3:min (Xp (ss.map XZ)).depth (Xp (([]:List Str).map XZ)).depth<=64:=Va (Yi _ _) (by decide);simp only[Xc,if_false,c1,c3,if_true];cases ss with
  | nil=>rfl
  | cons x r=>rfl
 have nd:fC h (.ref n)=false:=by simp only[fC,e1]
 unfold g7;rw[al,nd];rfl
theorem iV(e:h[n]?=fv (.lst xs)):va.lY ⟨fv n,xs⟩ h=true:=by
 unfold va.lY;simp only[e,true_or,decide_true]
def E7(s:List Str):Prop:=s.length<=20/\ ∀ x∈s,qY x=true/\VI x=true
noncomputable def Rw.th:Rw->Option (Nat × Str)
 | .get _ b=>fv (0,b) | .put b _=>fv (0,b) | .take l=>fv (1,l) | .free l=>fv (1,l)
 | .send l _=>fv (2,l) | .fetch _ l=>fv (2,l) | .say d _=>fv (3,d)
 | _=>UB
def Rw.nm:Rw->Option (Nat × Str)
 | .hear _ d=>fv (3,d)
 | r=>r.th
theorem Pr{r:Rw}(h:r.th=fv z):r.nm=fv z:=by cases r<;>first | exact h | cases h
noncomputable def T7(s0 s1 s2 s3:List Str) 
 | 0=>s0 | 1=>s1 | 2=>s2 | _=>s3
def C6(s0 s1 s2 s3:List Str)(r:Rw):= ∀ k t,r.nm=fv (k,t)->t∈T7 s0 s1 s2 s3 k
def df(h:Str × List Rw):PV:= .tup [.str h.1,fU h.2]
def BF(s0 s1 s2 s3:List Str)(h:Str × List Rw):Prop:=h.2.length<=40/\ ∃ L:List Str,L.length<=6/\(∀ x∈L,qY x=true)/\ ∀ r∈h.2,fO L h.2.length r/\C6 s0 s1 s2 s3 r
theorem yi h:(df h).flat=true:=by simp[df,PV.flat,PV.aU,fU,kO]
theorem Su{h:PH}{n:Nat}{ss:List Str}(e:h[n]?=fv (.lst (ss.map PV.str)))(a:Str):j8 (.str a) (.ref n) h= .ok (.bl (decide (a∈ss))) h:=by
 have:isIn (.str a) (.ref n) h=fv (decide (a∈ss)):=by
  unfold isIn;simp only[itemsOf,cj,e,all_strs,eT,XJ,if_true,g9]
 unfold j8;rw[this]
structure Pg where
 bs:List (Str × Int)
 s1:List Str
 s2:List Str
 s3:List Str
 hs:List (Str × List Rw)
def Pg.v(P:Pg):PV:= .tup [.tup (P.bs.map fg),.tup (P.s1.map PV.str),.tup (P.s2.map PV.str),.tup (P.s3.map PV.str),.tup (P.hs.map df)]
def Pg.nm(P:Pg):=T7 (P.bs.map (·.1)) P.s1 P.s2 P.s3
structure Pg.Ok(P:Pg):Prop where
 bx:P.bs.length<=20/\ ∀ z∈P.bs,qY z.1=true/\0<=z.2/\z.2<=999
 nm:E7 P.s1/\E7 P.s2/\E7 P.s3
 many:1<=P.hs.length/\P.hs.length<=4
 hd: ∀ h∈P.hs,BF (P.bs.map (·.1)) P.s1 P.s2 P.s3 h
theorem Pg.hand(P:Pg){i:Nat}(e:P.hs[i]?=fv x):lh P.v (i) x.2:=⟨_,_,_,_,_,_,rfl,P3.c9 rfl (by rw[U1,e];rfl)⟩
def BK(x:Str × List Rw)(L:List Str):=L.length<=6/\(∀ y∈L,qY y=true)/\ ∀ r∈x.2,fO L x.2.length r
noncomputable def SJ(x:Str × List Rw):=Classical.epsilon (BK x)
theorem gI(h:BF s0 s1 s2 s3 x):BK x (SJ x):=by
 obtain⟨_,L,l1,l2,l3⟩:=h;exact Classical.epsilon_spec (p:=BK x) ⟨L,l1,l2,λr m=>(l3 r m).1⟩
structure Wd where
 gW:List Int
 dU:List fY
 lV:List (Int × PV)
 jA:List (Option Int × PV)
 fS:List (Int × Int × List Int)
 qi:List Int
noncomputable def oS(b:Int × PV):PV:= .tup [.int b.1,b.2]
noncomputable def OE:Option Int->PV
 | none=> .non
 | some i=> .int i
def lM(l:Option Int × PV):PV:= .tup [OE l.1,l.2]
def lG(n:Int × Int × List Int):PV:= .tup [.int n.1,.int n.2.1,.tup (n.2.2.map PV.int)]
def aH(S:Wd):PV:= .tup [.tup (S.gW.map PV.int),.tup (S.dU.map aw),.tup (S.lV.map oS),.tup (S.jA.map lM),.tup (S.fS.map lG),.tup (S.qi.map PV.int)]
def rh(N:Nat)(v:PV):=v= .non\/ ∃ a b ,v= .tup [.int a,.int b]/\0<=a/\a < 4/\0<=b/\b<=N
theorem rh.flat(h:rh N v):v.flat=true:=by
 rcases h with rfl | ⟨a,b,rfl,_⟩<;>rfl
structure Ow(P:Pg)(N:Nat)(x:Str × List Rw)(s:fY):Prop where
 so:dm (SJ x) x.2 s
 nd:s.held.Nodup
 le:s.held.length<=N
 re:bI x.2 s=true
 nm: ∀ l∈s.held,l∈P.s1
 sr:s.held.Pairwise iO
structure gb(P:Pg)(N:Nat)(S:Wd):Prop where
 lc:S.gW.length=P.hs.length
 ls:S.dU.length=P.hs.length
 l0:S.lV.length=P.bs.length
 l1:S.jA.length=P.s1.length
 l2:S.fS.length=P.s2.length
 l3:S.qi.length=P.s3.length
 ct: ∀ c∈S.gW,0<=c/\c<=N
 bx: ∀ b∈S.lV,(0<=b.1/\b.1<=999)/\rh N b.2
 lk: ∀ l∈S.jA,(∀ i,l.1=fv i->0<=i/\i < 4)/\rh N l.2
 ln: ∀ n∈S.fS,(0<=n.1/\n.1<=N)/\(0<=n.2.1/\n.2.1<=N)/\n.2.2.length<=N/\ ∀ v∈n.2.2,0<=v/\v<=999
 dr: ∀ d∈S.qi,0<=d/\d<=N
 se: ∀(j:Nat)(x:Str × List Rw)(s:fY),P.hs[j]?=fv x->S.dU[j]?=fv s->Ow P N x s
def jY(P:Pg)(S:Wd):Option Rw->PV
 | none=> .str "end"
 | some (.take l)=>match S.jA[(P.nm 1).idxOf l]? with
  | some (fv i,_)=> .tup [.str "lock",.str l,.int i]
  | _=> .non
 | some (.fetch _ l)=>match S.fS[(P.nm 2).idxOf l]? with
  | some (_,_,[])=> .tup [.str "letter",.str l]
  | _=> .non
 | some _=> .non
noncomputable def rowAt(P:Pg)(S:Wd)(j:Nat):Option Rw:=match P.hs[j]?,S.dU[j]? with
 | some x,fv s=>x.2[s.row]?
 | _,_=>UB
def bO P S (j:Nat):=jY P S (rowAt P S j)
theorem hZ(e1:P.hs[j]?=fv x)(e2:S.dU[j]?=fv s):rowAt P S j=x.2[s.row]?:=by unfold rowAt;rw[e1,e2]
theorem bL{P:Pg}(ok:P.Ok){j:Nat}(e:P.hs[j]?=fv x)(m:r∈x.2)(q:r.th=fv (k,t)):t∈P.nm k:=by
 obtain⟨_,L,_,_,l3⟩:=ok.hd x (UR e);exact(l3 r m).2 k t (Pr q)
theorem OJ{P:Pg}(ok:P.Ok){j:Nat}(e:P.hs[j]?=fv x)(m:r∈x.2)(q:r.nm=fv (k,t)):t∈P.nm k:=by
 obtain⟨_,L,_,_,l3⟩:=ok.hd x (UR e);exact(l3 r m).2 k t q
theorem br{α :Type}{l:List α}{ns:List Str}(hl:l.length=ns.length)(m:t∈ns): ∃ z,l[ns.idxOf t]?=fv z/\z∈l:=by
 have h:ns.idxOf t < l.length:=by rw[hl];exact YM m
 exact⟨l[ns.idxOf t],UQ h,Ws h⟩
theorem gK{α :Type}{f: α ->PV}{l:List α}{n:Nat}{z}(e:l[n]?=fv z):cR (l.map f) (n)=fv (f z):=P3.c9 rfl (by simp_all)
theorem om(W:gb P N S)(h:j < P.hs.length): ∃ x s c,P.hs[j]?=fv x/\S.dU[j]?=fv s/\S.gW[j]?=fv c/\Ow P N x s:=by
 have h1:j < S.dU.length:=by rw[W.ls];exact h
 have h2:j < S.gW.length:=by rw[W.lc];exact h
 exact⟨P.hs[j],S.dU[j],S.gW[j],UQ h,UQ h1,UQ h2,W.se j _ _ (UQ h) (UQ h1)⟩
theorem gq: ∀ n s,bI rs (bV rs n s)=true
 | 0,s=>by
  unfold bV;split
  . assumption
  . unfold bI;rw[aaf (UL _)]
 | n+1,s=>by
  unfold bV;split
  . assumption
  . split
    . rename_i e;unfold bI;rw[e]
    . exact gq n _
theorem OB{α :Type}{l:List α}{g f: α ->PV}{st:PV->PH->RV (Option PV)}{H:PH}(hl:l.length<=1000)(he: ∀ x∈l,st (g x) H= .ok (fv (f x)) H):ia ⟨UB,l.map g⟩ st (l.map g) [] H= .ok (l.map f) H :=
 (dC rfl l [] (f:=λx=>fv (f x)) (g:=g) he (by simp;omega)).trans (by simp_all)
noncomputable def tS:Nat->Str
 | 0=> "box" | 1=> "lock" | 2=> "lane" | _=> "door"
def Bs(S:Wd) 
 | 0=>S.lV.map oS | 1=>S.jA.map lM | 2=>S.fS.map lG | _=>S.qi.map PV.int
section
variable{pg:Tb}(T:bD pg)
include T
theorem Bu k h (P:Pg) (ok:P.Ok) i:run pg (k+1) "names_of" [P.v,.str (tS i)] h= .ok (.ref h.length) (h++[.lst ((P.nm i).map PV.str)]):=by
 have b20:=ok.bx.1;rw [run_eq T.oy rfl];have ik: ∀(a:Str)(n:Nat),a∈(["box", "lock", "lane", "door", "hand"]:List Str)->(["box", "lock", "lane", "door", "hand"]:List Str).idxOf a=n->sU (.ktup [(.str "box"),(.str "lock"),(.str "lane"),(.str "door"),(.str "hand")]) [.str a] h= .ok (.int (n:Nat)) h:=λa n m e=>by rw [<- e];exact AF (ss:=["box", "lock", "lane", "door", "hand"]) m
 match i with
 | 0 =>
  have q:sU (.ktup [(.str "box"),(.str "lock"),(.str "lane"),(.str "door"),(.str "hand")]) [.str "box"] h= .ok (.int 0) h:=ik "box" 0 (by decide +kernel) (by rfl)
  have lc: ∀ E ,E=[fv P.v,fv (.str "box"),fv (.tup (P.bs.map fg))]->ia ⟨UB,P.bs.map fg⟩ (aX 1 (gN 3) aS (eX 3 0) (run pg k) E) (P.bs.map fg) [] h= .ok ((P.bs.map (·.1)).map PV.str) h:=by
   rintro _ rfl;rw[Wj];refine OB (l:=P.bs) (f:=PV.str ∘ λz:Str × Int=>z.1) (by omega) λx _=>?_;rfl
  have lc':=lc _ rfl
  unfold Pg.v at lc'
  simp? [eR,ju,Pg.v,tS,Hj,q,lc']
  exact bg rfl
 | 1 =>
  have q:=ik "lock" 1 (by decide +kernel) (by rfl)
  have q':=q
  exact bg rfl
 | 2 =>
  have q:=ik "lane" 2 (by decide +kernel) (by rfl)
  have q':=q
  exact bg rfl
 | (n+3) =>
  have q:=ik "door" 3 (by decide +kernel) (by rfl)
  have q':=q
  exact bg rfl
theorem qo k h {P:Pg} (ok:P.Ok) (m:t∈P.nm i):run pg (k+2) "number_of" [P.v,.str (tS i),.str t] h= .ok (.int ((P.nm i).idxOf t)) h:=by
 have n1:=Bu T k h P ok i;have e:(h++[PO.lst ((P.nm i).map PV.str)])[h.length]?=fv (.lst ((P.nm i).map PV.str)):=bu;have i1:=Su e t;have i2:=FA e m;rw[run_eq T.tw rfl];simp? [fA,lI,n1,i1,m,i2];exact aF rfl
theorem nX k h {P:Pg} (ok:P.Ok) S (i4:i < 4) (m:t∈P.nm i) (e:(Bs S i)[(P.nm i).idxOf t]?=fv z):run pg (k+3) "state_of" [P.v,aH S,.str (tS i),.str t] h= .ok z h:=by
 have n1:=qo T k h ok m;have a1:=P3.c9 rfl e;have ix: ∀ g,aG (.tup (Bs S i)) (.int (((P.nm i).idxOf t:Nat):Int)) g= .ok z g:=λg=>k4 a1;have pl:cv cF (.inr (tS i))=fv (.int ((2+i:Nat))):=by
  match i,i4 with
  | 0,_=>decide +kernel
  | 1,_=>decide +kernel
  | 2,_=>decide +kernel
  | 3,_=>decide +kernel
 have st: ∀ g,aG (aH S) (.int ((2+i:Nat):Int)) g= .ok (.tup (Bs S i)) g:=λg=>by
  match i,i4 with
  | 0,_=>exact DZ
  | 1,_=>exact Gh
  | 2,_=>exact A8
  | 3,_=>exact Lw
 rw[run_eq T.vI rfl];simp? [gG,oM,pl,st,n1,ix]
end
theorem lay_ints: ∀ ls:List Int,Wm (ls.map Y2)=true
 | []=>rfl
 | i::r=>by rw[UP,Wm,lay_ints r];rfl
theorem jD: ∀ ls:List Int,bA f (ls.map PV.int)=fv (ls.map Y2)
 | []=>rfl
 | x::r=>by rw[UP,bA,jD r];rfl
theorem xv:ja (.tup (ls.map PV.int)) (.tup []) h= .ok (.bl (decide (ls=[]))) h:=by
 have d1:dat 6 h (.tup (ls.map PV.int))=fv (.tuple (ls.map Y2)):=by unfold dat;rw[iL,jD];rfl
 have d2:dat 6 h (.tup [])=fv (.tuple []):=rfl;have sc:jV (.tup (ls.map PV.int)) (.tup [])=false:=rfl;have c1:(YL (ls.map Y2)).canLay0=true:=by rw[aaz,lay_ints]
 have c2:(YL []).canLay0=true:=rfl;have c3:min (YL (ls.map Y2)).depth (YL []).depth<=64:=Va (Yi _ _) (by decide);have al:alike (.tup (ls.map PV.int)) (.tup []) h=fv (decide (ls=[])):=by
  unfold alike;rw[sc,d1,d2];simp only[Xc,if_false,c1,c3,if_true];cases ls<;>rfl
 unfold ja;rw[al]
theorem oB s r: ∃ t v,bj s r= .tup [.str r.w,t,v]:=by cases r<;>exact⟨_,_,rfl⟩
theorem tV(r:Rw):(∃ l,r= .take l)\/(∃ x l,r= .fetch x l)\/(¬ r.w= "take" /\ ¬ r.w= "fetch" /\ ∀ P S,jY P S (fv r)= .non):=by
 cases r with
 | take l=>exact .inl ⟨l,rfl⟩
 | fetch x l=>exact .inr (.inl ⟨x,l,rfl⟩)
 | _=>exact .inr (.inr ⟨by simp only[Rw.w];decide +kernel,by simp only[Rw.w];decide +kernel,λ_ _=>rfl⟩)
section
variable{pg:Tb}(T:bD pg)
include T
theorem nq k h (ok:P.Ok) (W:gb P N S) (hj:j < P.hs.length):run pg (k+11) "wait_of" [P.v,aH S,.int j] h= .ok (bO P S j) h:=by
 obtain⟨x,s,c,ex,es,ec,so⟩:=om W hj;obtain⟨l1,l2,l3⟩:=gI (ok.hd x (UR ex));have to:=iq T k h (by omega) (P.hand ex) l3 so.so;have i1: ∀ g,aG (aH S) (.int 1) g= .ok (.tup (S.dU.map aw)) g:=λg=>vn;have i2: ∀ g,aG (.tup (S.dU.map aw)) (.int j) g= .ok (aw s) g:=λg=>k4 (gK es);rw[run_eq T.yp rfl];unfold bO;rw[hZ ex es];unfold lx at to;cases e:x.2[s.row]? with
 | none =>
  rw[e] at to
  simp? [bZ,dj,i1,i2,to,jY]
 | some r =>
  rw[e] at to
  have mr:=UR e
  rcases tV r with⟨l,rfl⟩ | ⟨y,l,rfl⟩ | ⟨n1,n2,n3⟩
  . have m:=bL ok ex mr (k:=1) (t:=l) rfl;obtain⟨z,ez,mz⟩:=br (l:=S.jA) (ns:=P.nm 1) W.l1 m;have so:=nX T (k+7) h ok S (i:=1) (by decide) m (z:=lM z) (by show(S.jA.map lM)[_]?=_;rw[U1,ez];rfl);have so':run pg (k+10) "state_of" [P.v,aH S,.str "lock",.str l] h= .ok (lM z) h:=so;obtain⟨zh,zm⟩:=z;simp only[jY,ez];cases zh with
    | none=>simp? [bZ,dj,i1,i2,to,bj,so',lM,OE]
    | some i=>simp? [bZ,dj,i1,i2,to,bj,so',lM,OE]
  . have m:=bL ok ex mr (k:=2) (t:=l) rfl;obtain⟨z,ez,mz⟩:=br (l:=S.fS) (ns:=P.nm 2) W.l2 m;have so:=nX T (k+7) h ok S (i:=2) (by decide) m (z:=lG z) (by show(S.fS.map lG)[_]?=_;rw[U1,ez];rfl);have so':run pg (k+10) "state_of" [P.v,aH S,.str "lane",.str l] h= .ok (lG z) h:=so;obtain⟨a,b,ls⟩:=z;simp only[jY,ez];cases ls with
    | nil =>
     have q:=xv (ls:=[]) (h:=h)
     rw[VU] at q
     simp? [bZ,dj,i1,i2,to,bj,so',lG,q]
    | cons i r =>
     have q:=xv (ls:=i::r) (h:=h)
     have ne:decide (i::r=[])=false:=rfl
     rw[ne,UP] at q
     simp? [bZ,dj,i1,i2,to,bj,so',lG,q]
  . obtain⟨t,v,et⟩:=oB s r;have to':run pg (k+10) "touch_of" [P.v,.int j,aw s] h= .ok (bj s r) h:=to;rw[et] at to';rw[n3];simp? [bZ,dj,i1,i2,to',n1,n2]
end
def Ic(P:Pg)(S:Wd):List PV:=(Vq P.hs.length).map (bO P S)
def pE P S:=(Vq P.hs.length).filter λj=>decide (bO P S j= .non)
def AS(v:PV):Prop:=v= .non\/v= .str "end" \/(∃(l:Str)(i:Int),v= .tup [.str "lock",.str l,.int i]/\qY l=true/\VI l=true/\0<=i/\i < 4)\/(∃ l:Str,v= .tup [.str "letter",.str l]/\qY l=true/\VI l=true)
theorem Ff{P:Pg}(ok:P.Ok){N:Nat}{S:Wd}(W:gb P N S){j:Nat}(hj:j < P.hs.length):AS (bO P S j):=by
 obtain⟨x,s,c,ex,es,ec,so⟩:=om W hj;unfold bO;rw[hZ ex es];cases e:x.2[s.row]? with
 | none=>exact .inr (.inl rfl)
 | some r =>
  have mr:=UR e
  rcases tV r with⟨l,rfl⟩ | ⟨y,l,rfl⟩ | ⟨n1,n2,n3⟩
  . have m:=bL ok ex mr (k:=1) (t:=l) rfl;obtain⟨z,ez,mz⟩:=br (l:=S.jA) (ns:=P.nm 1) W.l1 m;have hn:=ok.nm.1.2 l m;obtain⟨zh,zm⟩:=z;simp only[jY,ez];cases zh with
    | none=>exact .inl rfl
    | some i =>
     have:=(W.lk _ mz).1 i rfl
     exact .inr (.inr (.inl ⟨l,i,rfl,hn.1,hn.2,this.1,this.2⟩))
  . have m:=bL ok ex mr (k:=2) (t:=l) rfl;obtain⟨z,ez,mz⟩:=br (l:=S.fS) (ns:=P.nm 2) W.l2 m;have hn:=ok.nm.2.1.2 l m;obtain⟨a,b,ls⟩:=z;simp only[jY,ez];cases ls with
    | nil=>exact .inr (.inr (.inr ⟨l,rfl,hn.1,hn.2⟩))
    | cons i r=>exact .inl rfl
  . rw[n3];exact .inl rfl
theorem AS.flat{v:PV}(h:AS v):v.flat=true:=by
 rcases h with rfl | rfl | ⟨l,i,rfl,_⟩ | ⟨l,rfl,_⟩<;>rfl
theorem Pb{P:Pg}(ok:P.Ok){N:Nat}{S:Wd}(W:gb P N S): ∀ v∈Ic P S,AS v:=λv m=>by
 obtain⟨j,mj,rfl⟩:=Vg.mp m;exact Ff ok W (W4.mp mj)
theorem xw: ∀{ws:List PV},(∀ v∈ws,AS v)->PV.aU ws=true
 | [],_=>rfl
 | v::r,h=>by rw[PV.aU,(h v UX).flat,xw λz m=>h z (UZ _ m)];rfl
theorem yx(m:Nat)(w:Nat->PV):((Vq m).map w).zipIdx=(Vq m).map λj=>(w j,j):=by
 refine abA (by simp) λi h1 h2=>?_;simp
theorem kM{α β :Type} p (f: α -> β): ∀ l:List α,(l.filterMap λj=>if p j=true then fv (f j) else UB)=(l.filter p).map f
 | []=>rfl
 | x::r=>by
  by_cases z:p x=true
  . rw[WZ (by rw[if_pos z]),Vn z,UP,kM p f r]
  . rw[WY (by rw[if_neg z]),VB z,kM p f r]
noncomputable def jC(j:Nat):PV:= .int (j)
theorem G3:fz false x h= .ok (.bl (decide (x= .non))) h:=rfl
section
variable{pg:Tb}(T:bD pg)
include T
theorem sE(k:Nat)(h:PH)(P:Pg)(ok:P.Ok):run pg (k+1) "hands_of" [P.v] h= .ok (.ref h.length) (h++[.lst (ak 0 P.hs.length)]):=by
 have:=ok.many;rw[run_eq T.ni rfl];have tn:YO ((P.hs.length:Nat):Int)=P.hs.length:=VD _;simp? [eZ,jB,Pg.v,Hf,CA,UE,tn];exact bg rfl
theorem A6(k:Nat)(h:PH){P:Pg}(ok:P.Ok){N:Nat}{S:Wd}(W:gb P N S):run pg (k+12) "waits" [P.v,aH S] h= .ok (.tup (Ic P S)) h:=by
 have hm:=ok.many;have ho:=sE T (k+10) h P ok
 let H:PH:=h++[.lst (ak 0 P.hs.length)]
 have lc:ia ⟨fv h.length,ak 0 P.hs.length⟩ (aX 1 (gN 2) aS (ae "wait_of" (a3 (aa 0) (aa 1) (aa 2))) (run pg (k+11)) [fv P.v,fv (aH S)]) (ak 0 P.hs.length) [] H= .ok (Ic P S) H:=by
  refine(dC (iV bu) (Vq P.hs.length) [] (f:=λi=>fv (bO P S i)) (g:=λi:Nat=>PV.int (0+(i:Int))) (λi m=>?_) (by simp;omega)).trans (by rw[VJ,Yc];rfl);have iz:(0:Int)+(i:Int)=(i:Int):=YJ _;have w:=nq T k H ok W (W4.mp m);show aX _ _ _ _ _ _ _ H= .ok _ H
  clear_value H
  simp? [iz,w]
 have lc':ia ⟨fv h.length,ak 0 P.hs.length⟩ (aX 1 (gN 2) aS (ae "wait_of" (a3 (aa 0) (aa 1) (aa 2))) (run pg (k+11)) [fv P.v,fv (aH S)]) (ak 0 P.hs.length) [] (h++[.lst (ak 0 P.hs.length)])= .ok (Ic P S) (h++[.lst (ak 0 P.hs.length)]):=lc;rw[run_eq T.Fj rfl];simp? [mG,xf,ho,lc'];exact aF (v:= .tup _) (xw (Pb ok W))
theorem yh(k:Nat)(h:PH){P:Pg}(ok:P.Ok){N:Nat}{S:Wd}(W:gb P N S):run pg (k+13) "can_go" [P.v,aH S] h= .ok (.ref h.length) (h++[.lst ((pE P S).map jC)]):=by
 have hm:=ok.many;have wa:=A6 T k h ok W;have lc:ia ⟨UB,(Ic P S).zipIdx.map λq=> .tup [.int (q.2:Int),q.1]⟩ (aX 2 (gT 2 (aI (gN 2) (aI (gN 3) cZ))) (aA (u9 (fz false) (aa 3))) (aa 2) (run pg (k+12)) [fv P.v,fv (aH S)]) ((Ic P S).zipIdx.map λq=> .tup [.int (q.2:Int),q.1]) [] h= .ok ((pE P S).map jC) h:=by
  unfold Ic;rw[yx,Wj];refine(dC rfl (Vq P.hs.length) [] (f:=λj=>if decide (bO P S j= .non)=true then fv (jC j) else UB) (g:=(λq:PV × Nat=>PV.tup [.int (q.2:Int),q.1]) ∘ λj=>(bO P S j,j)) (λi m=>?_) (by simp;omega)).trans (by rw[VJ,kM];rfl);show aX _ _ _ _ _ _ (.tup [.int (i:Int),bO P S i]) h=_;by_cases z:bO P S i= .non
  . simp? [z,G3,jC]
  . simp? [z,G3,jC]
 rw[run_eq T.AM rfl];simp? [j0,ui,yf,wa,tQ,lc];exact bg rfl
end
theorem p6(e1:h[n]?=fv (.lst xs))(e2:h[m]?=fv (.lst []))(d: ∀ sub,bA sub xs=fv ds)(c:Wm ds=true):alike (.ref n) (.ref m) h=fv (decide (xs=[])):=by
 have d1:dat 6 h (.ref n)=fv (.list ds):=by unfold dat;simp only[iL,e1,d,XS]
 have d2:dat 6 h (.ref m)=fv (.list []):=by unfold dat;simp only[iL,e2,bA,XS]
 have c1:(Xp ds).canLay0=true/\(Xp []).canLay0=true/\min (Xp ds).depth (Xp []).depth<=64:=⟨by exact c,rfl,Va (Yi _ _) (by decide)⟩
 unfold alike;rw[show jV (.ref n) (.ref m)=false from rfl,d1,d2];simp only[Xc,if_false];rw[if_pos c1];cases xs with
 | nil =>
  have:=d λ_=>UB
  cases this
  rfl
 | cons x r =>
  have q:=d λ_=>UB
  cases ds with
  | nil =>
   rw[bA] at q
   split at q
   . cases q
   . cases q
  | cons a b=>rfl
theorem EW(e1:h[n]?=fv (.lst xs))(e2:h[m]?=fv (.lst []))(d: ∀ sub,bA sub xs=fv ds)(c:Wm ds=true):g7 (.ref n) (.ref m) h= .ok (.bl (!decide (xs=[]))) h:=by
 have nd:fC h (.ref n)=false:=by simp only[fC,e1]
 unfold g7;rw[p6 e1 e2 d c,nd];rfl
theorem CG(l:List Nat):l.map jC=(l.map λj:Nat=>(j:Int)).map PV.int:=by rw[Wj];rfl
theorem Na(l:List Nat): ∃ ds ,(∀ sub,bA sub (l.map jC)=fv ds)/\Wm ds=true:=by
 rw[CG];exact⟨_,λsub=>jD _,lay_ints _⟩
noncomputable def vb(j:Nat)(c:Int):PV:= .tup [.int (j),.int c]
def Rw.tg:Rw->Str
 | .hear _ d=>d
 | r=>match r.th with
  | some (_,t)=>t
  | none=> ""
def met(P:Pg)(S:Wd)(j:Nat)(c:Int)(s:fY)(g:PV):Rw->Wd × PV × PV
 | .get _ b=>(S,.int ((S.lV[(P.nm 0).idxOf b]?).getD (0,.non)).1,((S.lV[(P.nm 0).idxOf b]?).getD (0,.non)).2)
 | .put b e=>({ S with lV:=S.lV.set ((P.nm 0).idxOf b) (e.val (fP s.ps),vb j c)},.int (e.val (fP s.ps)),((S.lV[(P.nm 0).idxOf b]?).getD (0,.non)).2)
 | .take l=>({ S with jA:=S.jA.set ((P.nm 1).idxOf l) (fv (j),((S.jA[(P.nm 1).idxOf l]?).getD (UB,.non)).2)},.non,((S.jA[(P.nm 1).idxOf l]?).getD (UB,.non)).2)
 | .free l=>({ S with jA:=S.jA.set ((P.nm 1).idxOf l) (UB,vb j c)},.non,.non)
 | .send l e=>({ S with fS:=S.fS.set ((P.nm 2).idxOf l) (((S.fS[(P.nm 2).idxOf l]?).getD (0,0,[])).1+1,((S.fS[(P.nm 2).idxOf l]?).getD (0,0,[])).2.1,((S.fS[(P.nm 2).idxOf l]?).getD (0,0,[])).2.2++[e.val (fP s.ps)])},.int (e.val (fP s.ps)),.int ((S.fS[(P.nm 2).idxOf l]?).getD (0,0,[])).1)
 | .fetch _ l=>({ S with fS:=S.fS.set ((P.nm 2).idxOf l) (((S.fS[(P.nm 2).idxOf l]?).getD (0,0,[])).1,((S.fS[(P.nm 2).idxOf l]?).getD (0,0,[])).2.1+1,((S.fS[(P.nm 2).idxOf l]?).getD (0,0,[])).2.2.tail)},.int (((S.fS[(P.nm 2).idxOf l]?).getD (0,0,[])).2.2.headD 0),.int ((S.fS[(P.nm 2).idxOf l]?).getD (0,0,[])).2.1)
 | .say d e=>({ S with qi:=S.qi.set ((P.nm 3).idxOf d) ((S.qi[(P.nm 3).idxOf d]?).getD 0+1)},.int (e.val (fP s.ps)),.int ((S.qi[(P.nm 3).idxOf d]?).getD 0))
 | _=>(S,g,.non)
noncomputable def nr(S:Wd)(j:Nat)(c:Int)(t:fY):={ S with gW:=S.gW.set j (c+1),dU:=S.dU.set j t}
def mP(r:Rw)(v m:PV):PV:= .tup [.str r.w,.str r.tg,v,m]
def gS P S (j:Nat) (c:Int) (rs:List Rw) (s:fY) g r:=nr (met P S j c s g r).1 j c (bV rs 200 (after s (met P S j c s g r).2.1 r))
noncomputable def cE:Rw->Bool
 | .clock _=>true | .lot _ _=>true | .hear _ _=>true
 | _=>false
def fj r (g:PV):=(cE r=true-> ∃ i ,g= .int i∧0<=i∧i<=999∧ ∀ x n,r= .lot x n->i < n)∧(cE r=false->g= .non)
theorem cV{α :Type}(f: α ->PV)(l:List α) n z:(l.map f).set n (f z)=(l.set n z).map f:=List.map_set.symm
theorem nM(h:r.th=fv (i,t)):cv eJ (.inr r.w)=fv (.str (tS i))∧ ¬ r.w∈(["clock", "lot", "hear"]:List Str)∧i < 4∧cE r=false∧r.tg=t:=by
 cases r<;>cases h<;>exact ⟨by rfl,by simp only [Rw.w];decide +kernel,by decide,rfl,rfl⟩
theorem mE(h:cE r=true):r.w∈(["clock", "lot", "hear"]:List Str)∧r.th=UB∧ ∀ P S j c s g,met P S j c s g r=(S,g,.non):=by
 cases r<;>first | exact ⟨by simp only [Rw.w];decide +kernel,rfl,λ_ _ _ _ _ _=>rfl⟩ | cases h
theorem oJ s (h:cE r=true): ∃ tv,bj s r= .tup [.str r.w,.str r.tg,tv]∧((∃ x n,r= .lot x n∧tv= .int n)∨ ¬ r.w= "lot"):=by
 cases r<;>first | exact ⟨_,rfl,.inl ⟨_,_,rfl,rfl⟩⟩ | exact ⟨_,rfl,.inr (by simp only [Rw.w];decide +kernel)⟩ | cases h
theorem tE s (h:r.th=fv (i,t)): ∃ tv,bj s r= .tup [.str r.w,.str t,tv]:=by
 cases r<;>cases h<;>exact⟨_,rfl⟩
theorem jW(h:bI rs s=true)(e:rs[s.row]?=fv r):own s.held r=false/\((∃ i t,r.th=fv (i,t))\/cE r=true):=by
 unfold bI at h;rw[e] at h;have ho:own s.held r=false:=by simpa using h
 refine⟨ho,?_⟩;cases r<;>first | exact .inr rfl | exact .inl ⟨_,_,rfl⟩ | cases ho
section
variable{pg:Tb}(T:bD pg)
include T
theorem cK k h xs (n:Nat) v (hn:n < xs.length) (hx:xs.length<=1000):run pg (k+1) "replaced" [.tup xs,.int (n),v] h= .ok (.tup (xs.set n v)) h:=by
 have c1:eW xs UB (fv (n))=xs.take n:=by rw[P3.nc (by omega)];rfl
 have c2:eW xs (fv ((n)+1)) UB=xs.drop (n+1):=by rw[P3.nu (by omega)];congr 1
 have a1: ∀ g,aL (.tup (xs.take n)) (.tup [v]) g= .ok (.tup (xs.take n++[v])) g:=λg=>mF (by grind);have a2: ∀ g,aL (.tup (xs.take n++[v])) (.tup (xs.drop (n+1))) g= .ok (.tup (xs.take n++[v]++xs.drop (n+1))) g:=λg=>mF (by grind);have es:xs.set n v=xs.take n++[v]++xs.drop (n+1):=by rw[List.set_eq_take_append_cons_drop,if_pos hn];simp
 rw[es,run_eq T.wG rfl];simp? [gC,nQ,c1,c2,a1,↓a2]
theorem mU k h (h0:a<=i) (h9:i<=b):run pg (k+2) "is_between" [.int i,.int a,.int b] h= .ok (.bl true) h:=by
 have w:run pg (k+1) "is_whole" [.int i] h= .ok (.bl true) h:=by
  rw[run_eq T.wo rfl];simp? [gQ,oA,JH,IP]
 rw [run_eq T.qA rfl];simp? [eA,j7,w,h0,h9]
theorem F3 k h s (hg:fj r g) (hc:(∃ i t,r.th=fv (i,t))∨cE r=true):run pg (k+5) "takes_gift" [bj s r,g] h= .ok (.bl true) h:=by
 have ink: ∀ a:Str,j8 (.str a) (.ktup [(.str "clock"),(.str "lot"),(.str "hear")]) h= .ok (.bl (decide (a∈(["clock", "lot", "hear"]:List Str)))) h:=λa=>in_K (ss:=["clock", "lot", "hear"]);rw [run_eq T.rW rfl];rcases hc with ⟨i,t,ht⟩ | hq
 . obtain ⟨_,n2,_,n4,_⟩:=nM ht;obtain⟨tv,et⟩:=tE s ht;have eg:=hg.2 n4;subst eg;rw[et];simp? [cP,gJ,ink,n2]
 . obtain⟨m1,_⟩:=mE hq;obtain⟨i,rfl,i0,i9,il⟩:=hg.1 hq;obtain⟨tv,et,cl⟩:=oJ s hq;have iv:run pg (k+3) "is_value" [.int i] h= .ok (.bl true) h:=by
    have:=mU T k h i0 i9;rw[run_eq T.wX rfl];simp? [gO,oq,this]
   have mc:run pg (k+4) "may_come" [bj s r,.int i] h= .ok (.bl true) h:=by
    rw[run_eq T.vL rfl];rcases cl with⟨x,n,rfl,rfl⟩ | cl
    . have lt:=il x n rfl;rw[et];simp? [fh,js,iv,Rw.w,lt]
    . rw[et];simp? [fh,js,iv,cl]
   rw[et] at mc ⊢;simp? [cP,gJ,ink,m1,mc]
theorem C1 k h (ok:P.Ok) (W:gb P N S) (ex:P.hs[j]?=fv x) (es:S.dU[j]?=fv s) (er:x.2[s.row]?=fv r) (hw:bO P S j= .non) (hg:fj r g):run pg (k+12) "due_touch" [P.v,aH S,.int j,g] h= .ok (bj s r) h:=by
 have hj:=(UJ.mp ex).1;have so:=W.se j x s ex es;obtain⟨l1,l2,l3⟩:=gI (ok.hd x (UR ex));have to:=iq T (k+1) h (by omega) (P.hand ex) l3 so.so;unfold lx at to;rw[er] at to;have to':=to;have i1: ∀ g,aG (aH S) (.int 1) g= .ok (.tup (S.dU.map aw)) g:=λg=>vn;have i2: ∀ g,aG (.tup (S.dU.map aw)) (.int j) g= .ok (aw s) g:=λg=>k4 (gK es);have i4: ∀ g,aG P.v (.int 4) g= .ok (.tup (P.hs.map df)) g:=λg=>A8;have w:=nq T k h ok W hj;rw[hw] at w;have bt:=mU T (k+9) h (i:=(j)) (a:=0) (b:=(P.hs.length) - 1) (by omega) (by omega);have tg:=F3 T (k+6) h s hg (jW so.re er).2;have en:ja .non (.str "end") h= .ok (.bl false) h:=rfl;rw[run_eq T.tZ rfl];simp? [fI,lN,i4,UE,bt,w,en,i1,i2,to',tg]
theorem nT k h (ok:P.Ok) (W:gb P N S) (N9:N<=60) {j:Nat} (ex:P.hs[j]?=fv x) (es:S.dU[j]?=fv s) (ec:S.gW[j]?=fv c) (er:x.2[s.row]?=fv r) (h1:S1.gW=S.gW) (h2:S1.dU=S.dU) (hv: ∀ x,r.fR=fv x-> ∃ i ,v= .int i/\0<=i/\i<=999):run pg (k+12) "with_hand_on" [P.v,aH S1,.int j,v] h= .ok (aH (nr S1 j c (bV x.2 200 (after s v r)))) h:=by
 have so:=W.se j x s ex es;have hm:=ok.many;obtain⟨l1,l2,l3⟩:=gI (ok.hd x (UR ex))
 let t:=bV x.2 200 (after s v r)
 have sb:run pg (k+11) "seat_behind" [P.v,.int j,aw s,v] h= .ok (aw t) h:=nA T k h (by omega) (P.hand ex) l3 so.so (Va so.le N9) er hv;have lj:=(UJ.mp ex).1;have i0: ∀ g,aG (aH S1) (.int 0) g= .ok (.tup (S.gW.map PV.int)) g:=λg=>by rw[<- h1];exact qI
 have i1: ∀ g,aG (aH S1) (.int 1) g= .ok (.tup (S.dU.map aw)) g:=λg=>by rw[<- h2];exact vn
 have i2: ∀ g,aG (.tup (S.dU.map aw)) (.int j) g= .ok (aw s) g:=λg=>k4 (gK es);have i3: ∀ g,aG (.tup (S.gW.map PV.int)) (.int j) g= .ok (.int c) g:=λg=>k4 (gK ec);have lc:=W.lc;have ls:=W.ls;have r1:=cK T (k+10) h (S.gW.map PV.int) j (.int (c+1)) (by simp_all) (by rw[UE];omega);rw[cV PV.int] at r1;have r2:=cK T (k+10) h (S.dU.map aw) j (aw t) (by simp_all) (by rw[UE];omega);rw[cV aw] at r2
 let B:List PV:=[.tup (S1.lV.map oS),.tup (S1.jA.map lM),.tup (S1.fS.map lG),.tup (S1.qi.map PV.int)]
 have e1:aH S1= .tup (.tup (S.gW.map PV.int):: .tup (S.dU.map aw)::B):=by rw[<- h1,<- h2];rfl
 have r3:=cK T (k+10) h (.tup (S.gW.map PV.int):: .tup (S.dU.map aw)::B) 0 (.tup ((S.gW.set j (c+1)).map PV.int)) (by simp[B]) (by simp[B]);rw[<- e1] at r3;have r3':run pg (k+11) "replaced" [aH S1,.int 0,.tup ((S.gW.set j (c+1)).map PV.int)] h= .ok (.tup (.tup ((S.gW.set j (c+1)).map PV.int):: .tup (S.dU.map aw)::B)) h:=r3;have r4:=cK T (k+10) h (.tup ((S.gW.set j (c+1)).map PV.int):: .tup (S.dU.map aw)::B) 1 (.tup ((S.dU.set j t).map aw)) (by simp[B]) (by simp[B]);have r4':run pg (k+11) "replaced" [.tup (.tup ((S.gW.set j (c+1)).map PV.int):: .tup (S.dU.map aw)::B),.int 1,.tup ((S.dU.set j t).map aw)] h= .ok (aH (nr S1 j c t)) h:=by
  refine(show _=RV.ok (PV.tup (.tup ((S.gW.set j (c+1)).map PV.int):: .tup ((S.dU.set j t).map aw)::B)) h from r4).trans ?_;unfold nr aH;rw[h1,h2]
 show _=RV.ok (aH (nr S1 j c t)) h;rw[run_eq T.ng rfl];simp? [cT,ip,i0,i1,i2,i3,sb,r1,r2,r3',r4']
end
def Iy(S:Wd)(i n:Nat)(z:PV):PV:= .tup ([.tup (S.gW.map PV.int),.tup (S.dU.map aw),.tup (S.lV.map oS),.tup (S.jA.map lM),.tup (S.fS.map lG),.tup (S.qi.map PV.int)].set (2+i) (.tup ((Bs S i).set n z)))
theorem LR{α :Type}{l:List α}{z}(e:l[n]?=fv z):l.set n z=l:=by
 obtain⟨h,rfl⟩:=UJ.mp e;exact List.set_getElem_self h
theorem Ba(W:gb P N S)(i4:i < 4):(Bs S i).length=(P.nm i).length:=by
 match i,i4 with
 | 0,_=>show(S.lV.map oS).length=(P.bs.map (·.1)).length;rw[UE,UE];exact W.l0
 | 1,_=>show(S.jA.map lM).length=P.s1.length;rw[UE];exact W.l1
 | 2,_=>show(S.fS.map lG).length=P.s2.length;rw[UE];exact W.l2
 | 3,_=>show(S.qi.map PV.int).length=P.s3.length;rw[UE];exact W.l3
theorem IL{P:Pg}(ok:P.Ok)(i4:i < 4):(P.nm i).length<=20:=by
 match i,i4 with
 | 0,_=>show(P.bs.map (·.1)).length<=20;rw[UE];exact ok.bx.1
 | 1,_=>exact ok.nm.1.1
 | 2,_=>exact ok.nm.2.1.1
 | 3,_=>exact ok.nm.2.2.1
section
variable{pg:Tb}(T:bD pg)
include T
theorem pC k h (ok:P.Ok) (W:gb P N S) (i4:i < 4) (m:t∈P.nm i) z:run pg (k+3) "with_state" [P.v,aH S,.str (tS i),.str t,z] h= .ok (Iy S i ((P.nm i).idxOf t) z) h:=by
 have n1:=qo T k h ok m;have hn:(P.nm i).idxOf t < (Bs S i).length:=by rw[Ba W i4];exact YM m
 have hx:=IL ok i4;rw[<- Ba W i4] at hx;have pl:cv cF (.inr (tS i))=fv (.int ((2+i:Nat))):=by
  match i,i4 with
  | 0,_=>decide +kernel
  | 1,_=>decide +kernel
  | 2,_=>decide +kernel
  | 3,_=>decide +kernel
 have st: ∀ g,aG (aH S) (.int ((2+i:Nat):Int)) g= .ok (.tup (Bs S i)) g:=λg=>by
  match i,i4 with
  | 0,_=>exact DZ
  | 1,_=>exact Gh
  | 2,_=>exact A8
  | 3,_=>exact Lw
 have r1:=cK T (k+1) h (Bs S i) ((P.nm i).idxOf t) z hn (by omega);have r2:=cK T (k+1) h [.tup (S.gW.map PV.int),.tup (S.dU.map aw),.tup (S.lV.map oS),.tup (S.jA.map lM),.tup (S.fS.map lG),.tup (S.qi.map PV.int)] (2+i) (.tup ((Bs S i).set ((P.nm i).idxOf t) z)) (by simp only[UU,V8];omega) (by simp_all);have r2':run pg (k+2) "replaced" [aH S,.int ((2+i:Nat):Int),.tup ((Bs S i).set ((P.nm i).idxOf t) z)] h= .ok (Iy S i ((P.nm i).idxOf t) z) h:=r2;rw [run_eq T.qD rfl];simp? [dX,jL,pl,st,n1,r1,r2']
theorem eV k h (ok : P.Ok) (W : gb P N S) (N9 : N <= 60) (ex : P.hs[j]? = some x) (es : S.dU[j]? = some s) (ec : S.gW[j]? = some c) (er : x.2[s.row]? = some r) (hw : bO P S j = .non)
      (ht : r.th = some (i, t)) (ez : (Bs S i)[(P.nm i).idxOf t]? = some z) (me : run pg (k + 12) "meeting" [bj s r, vb j c, z] h = .ok (.tup [v, m, z']) h) (h0 : Iy S i ((P.nm i).idxOf t) z' = aH S1) (h1 : S1.gW = S.gW) (h2 : S1.dU = S.dU) (hv : ∀ x, r.fR = some x -> ∃ i , v = .int i /\ 0 <= i /\ i <= 999) :
    run pg (k + 13) "gone" [P.v, aH S, .int j, .non] h = .ok (.tup [aH (nr S1 j c (bV x.2 200 (after s v r))), mP r v m]) h := by
  obtain ⟨q1, q2, q3, q4, q5⟩ := nM ht;have tm := bL ok ex (UR er) ht;obtain ⟨tv, et⟩ := tE s ht;have du := C1 T k h ok W ex es er hw (g := .non) ⟨λe => (by simp_all), λ_ => rfl⟩;have so := nX T (k + 9) h ok S q3 tm ez;have ws := pC T (k + 9) h ok W q3 tm z';rw [h0] at ws;have ho := nT T k h ok W N9 ex es ec er h1 h2 hv;have i0 : ∀ g, aG (aH S) (.int 0) g = .ok (.tup (S.gW.map PV.int)) g := λg => qI;have i3 : ∀ g, aG (.tup (S.gW.map PV.int)) (.int j) g = .ok (.int c) g := λg => k4 (gK ec);have ink : ∀ a : Str, j8 (.str a) (.ktup [(.str "clock"), (.str "lot"), (.str "hear")]) h = .ok (.bl (decide (a ∈ (["clock", "lot", "hear"] : List Str)))) h := λa => in_K (ss := ["clock", "lot", "hear"]);unfold vb at me;unfold mP;rw [et] at du me;rw [q5, run_eq T.A2 rfl];simp? (disch := omega) only [nj, vg, du, ink, q2, q1, i0, i3, so, me, ws, ho]
theorem yu k h (ok:P.Ok) (W:gb P N S) (N9:N<=60) (ex:P.hs[j]?=fv x) (es:S.dU[j]?=fv s) (ec:S.gW[j]?=fv c) (er:x.2[s.row]?=fv r) (hw:bO P S j= .non) (hq:cE r=true) (hg:fj r g) :
  run pg (k+13) "gone" [P.v,aH S,.int j,g] h= .ok (.tup [aH (nr S j c (bV x.2 200 (after s g r))),mP r g .non]) h:=by
 obtain ⟨q1,q2,q3⟩:=mE hq;obtain⟨tv,et,_⟩:=oJ s hq;have du:=C1 T k h ok W ex es er hw hg;obtain ⟨i,rfl,i0,i9,_⟩:=hg.1 hq;have ho:=nT T k h ok W N9 ex es ec er (S1:=S) rfl rfl (v:= .int i) (λ_ _=>⟨i,rfl,i0,i9⟩);have ink: ∀ a:Str,j8 (.str a) (.ktup [(.str "clock"),(.str "lot"),(.str "hear")]) h= .ok (.bl (decide (a∈(["clock", "lot", "hear"]:List Str)))) h:=λa=>in_K (ss:=["clock", "lot", "hear"]);unfold mP;rw [et] at du;rw [run_eq T.A2 rfl];simp? [nj,vg,du,ink,q1,ho]
theorem xI k h (ok:P.Ok) (W:gb P N S) (N9:N<=60) (ex:P.hs[j]?=fv x) (es:S.dU[j]?=fv s) (ec:S.gW[j]?=fv c) (er:x.2[s.row]?=fv r) (hw:bO P S j= .non) (hg:fj r g) :
  run pg (k+13) "gone" [P.v,aH S,.int j,g] h= .ok (.tup [aH (gS P S j c x.2 s g r),mP r (met P S j c s g r).2.1 (met P S j c s g r).2.2]) h:=by
 have so:=W.se j x s ex es;have mr:=UR er;rcases(jW so.re er).2 with⟨i,t,ht⟩ | hq
 . obtain⟨q1,q2,q3,q4,q5⟩:=nM ht;have eg:=hg.2 q4;subst eg;have tm:=bL ok ex mr ht;cases r with
   | get y b =>
    obtain⟨z,ez,mz⟩:=br (l:=S.lV) (ns:=P.nm 0) (by rw[W.l0];exact(UE ..).symm) (bL ok ex mr (k:=0) (t:=b) rfl)
    have hz:=W.bx z mz
    have:=eV T k h ok W N9 ex es ec er hw (r:= .get y b) (i:=0) (t:=b) rfl (z:=oS z) (v:= .int z.1) (m:=z.2) (z':=oS z) (S1:=S) (by show(S.lV.map oS)[_]?=_;rw[U1,ez];rfl) (by
     rw[run_eq T.dz rfl];simp? [bQ,cJ,bj,oS,vb]) (by
     show PV.tup [_,_,.tup ((S.lV.map oS).set _ (oS z)),_,_,_]=_;rw[cV oS,LR ez];rfl) rfl rfl (λ_ _=>⟨z.1,rfl,hz.1.1,hz.1.2⟩)
    simp only[gS,met,ez,Vs]
    exact this
   | put b e =>
    obtain⟨z,ez,mz⟩:=br (l:=S.lV) (ns:=P.nm 0) (by rw[W.l0];exact(UE ..).symm) (bL ok ex mr (k:=0) (t:=b) rfl)
    have:=eV T k h ok W N9 ex es ec er hw (r:= .put b e) (i:=0) (t:=b) rfl (z:=oS z) (v:= .int (e.val (fP s.ps))) (m:=z.2) (z':=oS (e.val (fP s.ps),vb j c)) (S1:={ S with lV:=S.lV.set ((P.nm 0).idxOf b) (e.val (fP s.ps),vb j c)}) (by show(S.lV.map oS)[_]?=_;rw[U1,ez];rfl) (by
     rw[run_eq T.dz rfl];simp? [bQ,cJ,bj,oS,vb]) (by
     show PV.tup [_,_,.tup ((S.lV.map oS).set _ (oS _)),_,_,_]=_;rw[cV oS];rfl) rfl rfl (λ_ q=>by cases q)
    simp only[gS,met,ez,Vs]
    exact this
   | take l =>
    obtain⟨z,ez,mz⟩:=br (l:=S.jA) (ns:=P.nm 1) W.l1 (bL ok ex mr (k:=1) (t:=l) rfl)
    have:=eV T k h ok W N9 ex es ec er hw (r:= .take l) (i:=1) (t:=l) rfl (z:=lM z) (v:= .non) (m:=z.2) (z':=lM (fv (j),z.2)) (S1:={ S with jA:=S.jA.set ((P.nm 1).idxOf l) (fv (j),z.2)}) (by show(S.jA.map lM)[_]?=_;rw[U1,ez];rfl) (by
     rw[run_eq T.dz rfl];simp? [bQ,cJ,bj,lM,OE,vb]) (by
     show PV.tup [_,_,_,.tup ((S.jA.map lM).set _ (lM _)),_,_]=_;rw[cV lM];rfl) rfl rfl (λ_ q=>by cases q)
    simp only[gS,met,ez,Vs]
    exact this
   | free l =>
    obtain⟨z,ez,mz⟩:=br (l:=S.jA) (ns:=P.nm 1) W.l1 (bL ok ex mr (k:=1) (t:=l) rfl)
    have:=eV T k h ok W N9 ex es ec er hw (r:= .free l) (i:=1) (t:=l) rfl (z:=lM z) (v:= .non) (m:= .non) (z':=lM (UB,vb j c)) (S1:={ S with jA:=S.jA.set ((P.nm 1).idxOf l) (UB,vb j c)}) (by show(S.jA.map lM)[_]?=_;rw[U1,ez];rfl) (by
     rw[run_eq T.dz rfl];simp? [bQ,cJ,bj,lM,OE,vb]) (by
     show PV.tup [_,_,_,.tup ((S.jA.map lM).set _ (lM _)),_,_]=_;rw[cV lM];rfl) rfl rfl (λ_ q=>by cases q)
    simp only[gS,met]
    exact this
   | send l e =>
    obtain⟨z,ez,mz⟩:=br (l:=S.fS) (ns:=P.nm 2) W.l2 (bL ok ex mr (k:=2) (t:=l) rfl)
    have hz:=(W.ln z mz).2.2.1
    have ad: ∀ g,aL (.tup (z.2.2.map PV.int)) (.tup [.int (e.val (fP s.ps))]) g= .ok (.tup ((z.2.2++[e.val (fP s.ps)]).map PV.int)) g:=λg=>by
     rw[mF (by simp only[UE,UU,V8];omega),Wa];rfl
    have:=eV T k h ok W N9 ex es ec er hw (r:= .send l e) (i:=2) (t:=l) rfl (z:=lG z) (v:= .int (e.val (fP s.ps))) (m:= .int z.1) (z':=lG (z.1+1,z.2.1,z.2.2++[e.val (fP s.ps)])) (S1:={ S with fS:=S.fS.set ((P.nm 2).idxOf l) (z.1+1,z.2.1,z.2.2++[e.val (fP s.ps)])}) (by show(S.fS.map lG)[_]?=_;rw[U1,ez];rfl) (by
     rw[run_eq T.dz rfl];simp? [bQ,cJ,bj,lG,vb,↓ad]) (by
     show PV.tup [_,_,_,_,.tup ((S.fS.map lG).set _ (lG _)),_]=_;rw[cV lG];rfl) rfl rfl (λ_ q=>by cases q)
    simp only[gS,met,ez,Vs]
    exact this
   | fetch y l =>
    obtain⟨z,ez,mz⟩:=br (l:=S.fS) (ns:=P.nm 2) W.l2 (bL ok ex mr (k:=2) (t:=l) rfl)
    have hz:=(W.ln z mz).2.2.2
    obtain⟨za,zb,zl⟩:=z
    obtain⟨i,ls,rfl⟩: ∃ i ls,zl=i::ls:=by
     cases zl with
     | cons i ls=>exact⟨i,ls,rfl⟩
     | nil =>
      unfold bO at hw
      rw[hZ ex es,er] at hw
      simp only[jY,ez] at hw
      nomatch hw
    have hi:=hz i UX
    have:=eV T k h ok W N9 ex es ec er hw (r:= .fetch y l) (i:=2) (t:=l) rfl (z:=lG (za,zb,i::ls)) (v:= .int i) (m:= .int zb) (z':=lG (za,zb+1,ls)) (S1:={ S with fS:=S.fS.set ((P.nm 2).idxOf l) (za,zb+1,ls)}) (by show(S.fS.map lG)[_]?=_;rw[U1,ez];rfl) (by
     rw[run_eq T.dz rfl];simp? [bQ,cJ,bj,lG,vb,uv]) (by
     show PV.tup [_,_,_,_,.tup ((S.fS.map lG).set _ (lG _)),_]=_;rw[cV lG];rfl) rfl rfl (λ_ _=>⟨i,rfl,hi.1,hi.2⟩)
    simp only[gS,met,ez,Vs,List.tail_cons,abP]
    exact this
   | say d e =>
    obtain⟨z,ez,mz⟩:=br (l:=S.qi) (ns:=P.nm 3) W.l3 (bL ok ex mr (k:=3) (t:=d) rfl)
    have:=eV T k h ok W N9 ex es ec er hw (r:= .say d e) (i:=3) (t:=d) rfl (z:= .int z) (v:= .int (e.val (fP s.ps))) (m:= .int z) (z':= .int (z+1)) (S1:={ S with qi:=S.qi.set ((P.nm 3).idxOf d) (z+1)}) (by show(S.qi.map PV.int)[_]?=_;rw[U1,ez];rfl) (by
     rw[run_eq T.dz rfl];simp? [bQ,cJ,bj,vb]) (by
     show PV.tup [_,_,_,_,_,.tup ((S.qi.map PV.int).set _ (.int _))]=_;rw[cV PV.int];rfl) rfl rfl (λ_ q=>by cases q)
    simp only[gS,met,ez,Vs]
    exact this
   | _=>cases ht
 . obtain⟨_,_,q3⟩:=mE hq;rw[gS,q3];exact yu T k h ok W N9 ex es ec er hw hq hg
end
theorem Bf(hs:dm L rs s)(e:rs[s.row]?=fv r)(hr:fO L rs.length r)(hv: ∀ x,r.fR=fv x-> ∃ i ,v= .int i/\0<=i/\i<=999):dm L rs (after s v r):=by
 have hlt:=(UJ.mp e).1;rcases rw_cls r with⟨x,hx⟩ | ⟨l,rfl⟩ | ⟨l,rfl⟩ | ⟨_,af⟩
 . obtain⟨i,rfl,h0,h9⟩:=hv x hx;rw[nN hx];exact⟨vF hs.pk (hr.pk hx) h0 h9,hlt⟩
 . exact⟨hs.pk,hlt⟩
 . exact⟨hs.pk,hlt⟩
 . rw[af];exact⟨hs.pk,hlt⟩
theorem wb(ex:P.hs[j]?=fv x)(es:S.dU[j]?=fv s)(er:x.2[s.row]?=fv (.fetch y l))(hw:bO P S j= .non)(ez:S.fS[(P.nm 2).idxOf l]?=fv z): ∃ a b i ls,z=(a,b,i::ls):=by
 obtain⟨za,zb,zl⟩:=z;cases zl with
 | cons i ls=>exact⟨za,zb,i,ls,rfl⟩
 | nil =>
  unfold bO at hw
  rw[hZ ex es,er] at hw
  simp only[jY,ez] at hw
  nomatch hw
theorem Gq(W:gb P N S):S.lV.length=(P.nm 0).length:=by rw[W.l0];exact(UE ..).symm
theorem HV(ok:P.Ok)(W:gb P N S)(ex:P.hs[j]?=fv x)(es:S.dU[j]?=fv s)(er:x.2[s.row]?=fv r)(hw:bO P S j= .non)(hg:fj r g): ∀ y,r.fR=fv y-> ∃ i ,(met P S j c s g r).2.1= .int i/\0<=i/\i<=999:=by
 have mr:=UR er;have gi:cE r=true-> ∃ i:Int,(met P S j c s g r).2.1= .int i/\0<=i/\i<=999:=λhq=>by
  obtain⟨i,rfl,h0,h9,_⟩:=hg.1 hq;rw[(mE hq).2.2];exact⟨i,rfl,h0,h9⟩
 intro y hy;cases r with
 | get y' b =>
  obtain⟨z,ez,mz⟩:=br (Gq W) (bL ok ex mr (k:=0) (t:=b) rfl)
  exact⟨z.1,by simp only[met,ez,Vs],(W.bx z mz).1⟩
 | fetch y' l =>
  obtain⟨z,ez,mz⟩:=br (l:=S.fS) (ns:=P.nm 2) W.l2 (bL ok ex mr (k:=2) (t:=l) rfl)
  obtain⟨a,b,i,ls,rfl⟩:=wb ex es er hw ez
  exact⟨i,by simp only[met,ez,Vs,abP],(W.ln _ mz).2.2.2 i UX⟩
 | clock _=>exact gi rfl
 | lot _ _=>exact gi rfl
 | hear _ _=>exact gi rfl
 | _=>cases hy
theorem rh.up(h:rh N v):rh (N+1) v:=by
 rcases h with h | ⟨a,b,h,h1,h2,h3,h4⟩
 . exact .inl h
 . exact .inr ⟨a,b,h,h1,h2,h3,by omega⟩
theorem Ow.up(h:Ow P N x s):Ow P (N+1) x s:=⟨h.so,h.nd,by have:=h.le;omega,h.re,h.nm,h.sr⟩
theorem gb.up(W:gb P N S):gb P (N+1) S where
 lc:=W.lc
 ls:=W.ls
 l0:=W.l0
 l1:=W.l1
 l2:=W.l2
 l3:=W.l3
 ct c m:=by have:=W.ct c m;omega
 bx b m:=⟨(W.bx b m).1,(W.bx b m).2.up⟩
 lk l m:=⟨(W.lk l m).1,(W.lk l m).2.up⟩
 ln n m:=by have:=W.ln n m;exact⟨by omega,by omega,by omega,this.2.2.2⟩
 dr d m:=by have:=W.dr d m;omega
 se j x s e1 e2:=(W.se j x s e1 e2).up
theorem IA(ok:P.Ok)(W:gb P N S)(ex:P.hs[j]?=fv x)(es:S.dU[j]?=fv s)(ec:S.gW[j]?=fv c)(er:x.2[s.row]?=fv r)(hw:bO P S j= .non)(hg:fj r g):gb P (N+1) (met P S j c s g r).1:=by
 have mr:=UR er;have U:=W.up;have lj:=(UJ.mp ex).1;have hm:=ok.many;have hc:=W.ct c (UR ec);have so:=W.se j x s ex es;obtain⟨l1,l2,l3⟩:=gI (ok.hd x (UR ex));have hr:=l3 r mr;have Aa: ∀ e:Sm,nV e->0<=e.val (fP s.ps)/\e.val (fP s.ps)<=999:=λe he=>Sm.sy (sN λq m=>(so.so.pk.mem q m).2) e he.1;have mk:rh (N+1) (vb j c):= .inr ⟨j,c,rfl,by omega,by omega,by omega,by omega⟩;cases r with
 | get y b=>exact U
 | put b e=>exact{ U with
   l0:=by rw[<- U.l0];exact V7
   bx:=λq m=>by
    rcases VG m with m | rfl
    . exact U.bx q m
    . exact⟨Aa e hr,mk⟩}
 | take l =>
  obtain⟨z,ez,mz⟩:=br (l:=S.jA) (ns:=P.nm 1) W.l1 (bL ok ex mr (k:=1) (t:=l) rfl)
  simp only[met,ez,Vs]
  exact{ U with
   l1:=by rw[<- U.l1];exact V7
   lk:=λq m=>by
    rcases VG m with m | rfl
    . exact U.lk q m
    . exact⟨λi e=>by cases e;omega,(U.lk z mz).2⟩}
 | free l=>exact{ U with
   l1:=by rw[<- U.l1];exact V7
   lk:=λq m=>by
    rcases VG m with m | rfl
    . exact U.lk q m
    . exact⟨λi e=>(by cases e),mk⟩}
 | send l e =>
  obtain⟨z,ez,mz⟩:=br (l:=S.fS) (ns:=P.nm 2) W.l2 (bL ok ex mr (k:=2) (t:=l) rfl)
  have hz:=W.ln z mz
  simp only[met,ez,Vs]
  exact{ U with
   l2:=by rw[<- U.l2];exact V7
   ln:=λq m=>by
    rcases VG m with m | rfl
    . exact U.ln q m
    . refine⟨by show 0<=z.1+1/\z.1+1<=((N+1));omega,by show 0<=z.2.1/\z.2.1<=((N+1));omega,by simp_all,λv mv=>?_⟩;rcases V6.mp mv with mv | mv
      . exact hz.2.2.2 v mv
      . rw[Vz.mp mv];exact Aa e hr}
 | fetch y l =>
  obtain⟨z,ez,mz⟩:=br (l:=S.fS) (ns:=P.nm 2) W.l2 (bL ok ex mr (k:=2) (t:=l) rfl)
  have hz:=W.ln z mz
  simp only[met,ez,Vs]
  exact{ U with
   l2:=by rw[<- U.l2];exact V7
   ln:=λq m=>by
    rcases VG m with m | rfl
    . exact U.ln q m
    . refine⟨by show 0<=z.1/\z.1<=((N+1));omega,by show 0<=z.2.1+1/\z.2.1+1<=((N+1));omega,by rw[List.length_tail];omega,λv mv=>hz.2.2.2 v (List.mem_of_mem_tail mv)⟩}
 | say d e =>
  obtain⟨z,ez,mz⟩:=br (l:=S.qi) (ns:=P.nm 3) W.l3 (bL ok ex mr (k:=3) (t:=d) rfl)
  have hz:=W.dr z mz
  simp only[met,ez,Vs]
  exact{ U with
   l3:=by rw[<- U.l3];exact V7
   dr:=λq m=>by
    rcases VG m with m | rfl
    . exact U.dr q m
    . omega}
 | _=>exact U
theorem EL(ok:P.Ok)(W:gb P N S)(ex:P.hs[j]?=fv x)(es:S.dU[j]?=fv s)(ec:S.gW[j]?=fv c)(er:x.2[s.row]?=fv r)(hw:bO P S j= .non)(hg:fj r g):gb P (N+1) (gS P S j c x.2 s g r):=by
 have mr:=UR er;have M:=IA ok W ex es ec er hw hg;have mc:(met P S j c s g r).1.gW=S.gW/\(met P S j c s g r).1.dU=S.dU:=by cases r<;>exact⟨rfl,rfl⟩
 have so:=W.se j x s ex es;have hc:=W.ct c (UR ec);obtain⟨l1,l2,l3⟩:=gI (ok.hd x (UR ex));have hv:=HV ok W (c:=c) ex es er hw hg;have ow:=(jW so.re er).1;have ls:=(UJ.mp es).1;have hh:(after s (met P S j c s g r).2.1 r).held.Nodup/\(after s (met P S j c s g r).2.1 r).held.length<=N+1/\(∀ l∈(after s (met P S j c s g r).2.1 r).held,l∈P.s1)/\(after s (met P S j c s g r).2.1 r).held.Pairwise iO:=by
  have le:=so.le;rcases rw_cls r with⟨y,hy⟩ | ⟨l,rfl⟩ | ⟨l,rfl⟩ | ⟨_,af⟩
  . rw[nN hy];exact⟨so.nd,by show s.held.length<=_;omega,so.nm,so.sr⟩
  . have nl:l ∉ s.held:=by simpa [own] using ow
    have ndl:(s.held++[l]).Nodup:=Zg.mpr ⟨so.nd,by simp,λa ha b hb e=>nl (by rw[<- Vz.mp hb,<- e];exact ha)⟩;refine⟨?_,?_,λy hy=>?_,yy ndl⟩
    . show(dJ (s.held++[l])).Nodup;rw[(gM _).nodup_iff];exact ndl
    . show(dJ (s.held++[l])).length<=_;rw[(gM _).length_eq];simp;omega
    . have hy':y∈dJ (s.held++[l]):=hy;rw[(gM _).mem_iff,V6] at hy';rcases hy' with hy' | hy'
      . exact so.nm y hy'
      . rw[Vz.mp hy'];exact bL ok ex mr (k:=1) (t:=l) rfl
  . refine⟨so.nd.sublist YD,?_,λy hy=>so.nm y (XQ.mp hy).1,so.sr.sublist YD⟩;exact Va (aag _ _) (by omega)
  . rw[af];exact⟨so.nd,by show s.held.length<=_;omega,so.nm,so.sr⟩
 exact{ M with
  lc:=by rw[<- M.lc];exact V7
  ls:=by rw[<- M.ls];exact V7
  ct:=λq m=>by
   rcases VG m with m | rfl
   . exact M.ct q m
   . omega
  se:=λi y t ey et=>by
   have et':(S.dU.set j (bV x.2 200 (after s (met P S j c s g r).2.1 r)))[i]?=fv t:=by rw[<- mc.2];exact et
   by_cases z:j=i
   . subst z;rw[VS ls] at et';rw[ex] at ey;cases et';cases ey;exact⟨mN l3 200 _ (Bf so.so er (l3 r mr) hv),by rw[dv];exact hh.1,by rw[dv];exact hh.2.1,gq 200 _,by rw[dv];exact hh.2.2.1,by rw[dv];exact hh.2.2.2⟩
   . rw[Ww z] at et';exact(W.se i y t ey et').up}
theorem xn{α :Type}{f}: ∀{l:List α},(∀ x∈l,wU (f x)=true)->ki (l.map f)=true
 | [],_=>rfl
 | x::r,h=>by rw[UP,ki,h x UX,xn λz m=>h z (UZ _ m)];rfl
theorem xM{α :Type}{f}: ∀{l:List α},(∀ x∈l,G9 (f x)<=c)->Ho (l.map f)<=(c+1)*l.length
 | [],_=>Vw _
 | x::r,h=>by
  have h1:=h x UX;have h2:=xM (l:=r) λz m=>h z (UZ _ m);rw[UP,Ho,UU,Nat.mul_succ];omega
theorem x9{α :Type}{f}: ∀{l:List α},(∀ x∈l,EZ (f x)<=c)->tq (l.map f)<=c
 | [],_=>Vw _
 | x::r,h=>by
  have h1:=h x UX;have h2:=x9 (l:=r) λz m=>h z (UZ _ m);rw[UP,tq];omega
structure Sh(b d:Nat)(v:PV):Prop where
 ok:wU v=true
 bk:G9 v<=b
 dp:EZ v<=d
theorem eN{α :Type}{f}{l:List α} n (hl:l.length<=n) (h: ∀ x∈l,Sh b d (f x)):Sh ((b+1)*n) (d+1) (.tup (l.map f)) :=
 ⟨by exact xn λx m=>(h x m).ok,by exact Va (xM λx m=>(h x m).bk) (Nat.mul_le_mul_left _ hl),by rw[EZ];have:=x9 λx m=>(h x m).dp;omega⟩
theorem qR(h:qY x=true):Sh 20 0 (.str x):=⟨h,wc h,UL _⟩
theorem bG(h0:0<=i)(h1:i<=1000000):Sh 0 0 (.int i):=⟨by rw[wU,decide_eq_true_eq];exact⟨h0,h1⟩,UL _,UL _⟩
theorem jG:Sh 0 0 .non:=⟨rfl,UL _,UL _⟩
theorem pH d:Sh 0 (d+1) (.tup []):=⟨rfl,UL _,abx (Vw _)⟩
theorem dc d (h:Sh b e v) (t:Sh c (d+1) (.tup vs)) (he:e<=d:=by decide):Sh (b+1+c) (d+1) (.tup (v::vs)):=by
 have t1:=t.ok;have t2:=t.bk;have t3:=t.dp;have h2:=h.bk;have h3:=h.dp;rw[wU] at t1;rw[G9] at t2;rw[EZ] at t3;exact⟨by rw[wU,ki,h.ok,t1];rfl,by rw[G9,Ho];omega,by rw[EZ,tq];omega⟩
theorem Sh.up{e}(h:Sh b d v)(hb:b<=c:=by decide)(hd:d<=e:=by decide):Sh c e v:=⟨h.ok,Va h.bk hb,Va h.dp hd⟩
theorem Sh.show(h:Sh b d (.tup xs))(hb:b<=1000000:=by decide)(hd:d<=61:=by decide): ∃ x ,∀ g,wt [.tup xs] g= .ok (.str x) g:=by
 have h1:=h.ok;have h2:=h.bk;have h3:=h.dp;rw[G9] at h2;rw[EZ] at h3;exact FT h1 (by omega) (by omega)
theorem G4{P:Pg}(ok:P.Ok){k:Nat}{t:Str}(m:t∈P.nm k):qY t=true:=by
 match k,m with
 | 0,m =>
  obtain⟨z,mz,rfl⟩:=Vg.mp (show t∈P.bs.map (·.1) from m)
  exact(ok.bx.2 z mz).1
 | 1,m=>exact(ok.nm.1.2 t m).1
 | 2,m=>exact(ok.nm.2.1.2 t m).1
 | _+3,m=>exact(ok.nm.2.2.2 t m).1
theorem sV(N9:N<=100)(h:rh N v):Sh 2 1 v:=by
 rcases h with rfl | ⟨a,b,rfl,h1,h2,h3,h4⟩
 . exact jG.up
 . exact dc 0 (bG h1 (by omega)) (dc 0 (bG h3 (by omega)) (pH 0))
theorem vO(ok:P.Ok)(N9:N<=100)(W:gb P N S):Sh 100000 5 (aH S):=by
 have hm:=ok.many;have a0:Sh ((0+1)*4) 1 (.tup (S.gW.map PV.int)):=eN 4 (by rw[W.lc];omega) λc m=>by have:=W.ct c m;exact bG (by omega) (by omega)
 have a1:Sh ((2500+1)*4) 4 (.tup (S.dU.map aw)):=eN 4 (by rw[W.ls];omega) λs m=>by
  obtain⟨j,hj,ej⟩:=List.getElem_of_mem m;have es:S.dU[j]?=fv s:=by rw[<- ej];exact UQ hj
  have hj':j < P.hs.length:=by rw[<- W.ls];exact hj
  have so:=W.se j _ s (UQ hj') es;obtain⟨l1,l2,l3⟩:=gI (ok.hd _ (Ws hj'));have hd:=(ok.hd _ (Ws hj')).1;have pl:=so.so.pk.len;have le:=so.so.le;have p1:Sh ((22+1)*6) 2 (.tup (s.ps.map fg)):=eN 6 (by omega) λz mz=>by
   have:=so.so.pk.mem z mz;exact dc 0 (qR (l2 _ this.1)) (dc 0 (bG (by omega) (by omega)) (pH 0))
  have p2:=eN 100 (by have:=so.le;omega) λz mz=>qR (G4 ok (k:=1) (so.nm z mz));exact(dc 2 (bG (by omega) (by omega)) (dc 2 p1 (dc 2 p2 (pH 2)))).up
 have a2:Sh ((4+1)*20) 3 (.tup (S.lV.map oS)):=eN 20 (by rw[W.l0];exact ok.bx.1) λz m=>by
  have:=W.bx z m;exact dc 1 (bG (by omega) (by omega)) (dc 1 (sV N9 this.2) (pH 1))
 have a3:Sh ((4+1)*20) 3 (.tup (S.jA.map lM)):=eN 20 (by rw[W.l1];exact ok.nm.1.1) λz m=>by
  have:=W.lk z m;refine dc 1 (b:=0) (e:=0) ?_ (dc 1 (sV N9 this.2) (pH 1));cases e:z.1 with
  | none=>exact jG
  | some i=>have:=this.1 i e;exact bG this.1 (by omega)
 have a4:Sh ((103+1)*20) 3 (.tup (S.fS.map lG)):=eN 20 (by rw[W.l2];exact ok.nm.2.1.1) λz m=>by
  have:=W.ln z m;have q:Sh ((0+1)*100) 1 (.tup (z.2.2.map PV.int)):=eN 100 (by omega) λv mv=>by have:=this.2.2.2 v mv;exact bG this.1 (by omega)
  exact dc 1 (bG (by omega) (by omega)) (dc 1 (bG (by omega) (by omega)) (dc 1 q (pH 1)))
 have a5:Sh ((0+1)*20) 1 (.tup (S.qi.map PV.int)):=eN 20 (by rw[W.l3];exact ok.nm.2.2.1) λz m=>by have:=W.dr z m;exact bG (by omega) (by omega)
 exact(dc 4 a0 (dc 4 a1 (dc 4 a2 (dc 4 a3 (dc 4 a4 (dc 4 a5 (pH 4))))))).up
theorem Cm(ok:P.Ok)(N9:N<=100)(W:gb P N S)(ex:P.hs[j]?=fv x)(es:S.dU[j]?=fv s)(er:x.2[s.row]?=fv r)(hg:fj r g):Sh 0 0 g/\Sh 0 0 (met P S j c s g r).2.1/\Sh 2 1 (met P S j c s g r).2.2:=by
 have mr:=UR er;have so:=W.se j x s ex es;obtain⟨l1,l2,l3⟩:=gI (ok.hd x (UR ex));have hr:=l3 r mr;have Aa: ∀ e:Sm,nV e->Sh 0 0 (.int (e.val (fP s.ps))):=λe he=>by
  have:=Sm.sy (sN λq m=>(so.so.pk.mem q m).2) e he.1;exact bG this.1 (by omega)
 have gs:Sh 0 0 g:=by
  cases e:cE r with
  | true=>obtain⟨i,rfl,h0,h9,_⟩:=hg.1 e;exact bG h0 (by omega)
  | false=>rw[hg.2 e];exact jG
 refine⟨gs,?_⟩;cases r with
 | get y b =>
  obtain⟨z,ez,mz⟩:=br (l:=S.lV) (ns:=P.nm 0) (by rw[W.l0];exact(UE ..).symm) (bL ok ex mr (k:=0) (t:=b) rfl)
  have:=W.bx z mz
  simp only[met,ez,Vs]
  exact⟨bG this.1.1 (by omega),sV N9 this.2⟩
 | put b e =>
  obtain⟨z,ez,mz⟩:=br (l:=S.lV) (ns:=P.nm 0) (by rw[W.l0];exact(UE ..).symm) (bL ok ex mr (k:=0) (t:=b) rfl)
  simp only[met,ez]
  exact⟨Aa e hr,sV N9 (W.bx z mz).2⟩
 | take l =>
  obtain⟨z,ez,mz⟩:=br (l:=S.jA) (ns:=P.nm 1) W.l1 (bL ok ex mr (k:=1) (t:=l) rfl)
  simp only[met,ez]
  exact⟨jG,sV N9 (W.lk z mz).2⟩
 | free l=>exact⟨jG,jG.up⟩
 | send l e =>
  obtain⟨z,ez,mz⟩:=br (l:=S.fS) (ns:=P.nm 2) W.l2 (bL ok ex mr (k:=2) (t:=l) rfl)
  have:=W.ln z mz
  simp only[met,ez]
  exact⟨Aa e hr,(bG this.1.1 (by omega)).up⟩
 | fetch y l =>
  obtain⟨z,ez,mz⟩:=br (l:=S.fS) (ns:=P.nm 2) W.l2 (bL ok ex mr (k:=2) (t:=l) rfl)
  have:=W.ln z mz
  simp only[met,ez,Vs]
  refine⟨?_,(bG this.2.1.1 (by omega)).up⟩
  cases q:z.2.2 with
  | nil=>exact bG (by decide) (by decide)
  | cons i ls=>have:=this.2.2.2 i (by rw[q];exact UX);exact bG this.1 (by show i<=_;omega)
 | say d e =>
  obtain⟨z,ez,mz⟩:=br (l:=S.qi) (ns:=P.nm 3) W.l3 (bL ok ex mr (k:=3) (t:=d) rfl)
  have:=W.dr z mz
  simp only[met,ez]
  exact⟨Aa e hr,(bG this.1 (by omega)).up⟩
 | _=>exact⟨gs,jG.up⟩
theorem HD{P:Pg}(ok:P.Ok){j:Nat}(ex:P.hs[j]?=fv x)(m:r∈x.2):qY r.w=true/\qY r.tg=true:=by
 have e0:qY "" =true:=by rfl
 have nn: ∀ k t,r.nm=fv (k,t)->qY t=true:=λk t q=>G4 ok (OJ ok ex m q);cases r<;>first | exact⟨by rfl,nn _ _ rfl⟩ | exact⟨by rfl,e0⟩
structure Hg(P:Pg)(S:Wd)(j:Nat)(g l:PV)(S1:Wd):Prop where
 at_: ∃ x s c r,P.hs[j]?=fv x/\S.dU[j]?=fv s/\S.gW[j]?=fv c/\x.2[s.row]?=fv r/\bO P S j= .non/\fj r g/\S1=gS P S j c x.2 s g r/\l=mP r (met P S j c s g r).2.1 (met P S j c s g r).2.2
inductive Wk(P:Pg):Wd->List (Nat × PV × PV)->Wd->Prop
 | nil (S:Wd):Wk P S [] S
 | cons {S S1 S2:Wd} {j:Nat} {g l:PV} {r:List (Nat × PV × PV)} (h:Hg P S j g l S1) (t:Wk P S1 r S2):Wk P S ((j,g,l)::r) S2
theorem Wk.app(h:Wk P S a S1)(t:Wk P S1 b S2):Wk P S (a++b) S2:=by
 induction h with
 | nil=>exact t
 | cons h _ ih=>exact .cons h (ih t)
theorem Wk.split: ∀{a b S S2},Wk P S (a++b) S2-> ∃ S1,Wk P S a S1/\Wk P S1 b S2
 | [],b,S,S2,h=>⟨S,.nil S,h⟩
 | z::a,b,S,S2,h=>by
  cases h with
  | cons h t=>obtain⟨S1,h1,h2⟩:=Wk.split t;exact⟨S1,.cons h h1,h2⟩
def cW(z:Nat × PV × PV):PV:= .tup [jC z.1,z.2.1]
def Dg(z:Nat × PV × PV):PV:= .tup [jC z.1,z.2.2]
theorem Hg.ok(ok:P.Ok)(W:gb P N S)(h:Hg P S j g l S1):gb P (N+1) S1:=by
 obtain⟨x,s,c,r,ex,es,ec,er,hw,hg,rfl,rfl⟩:=h.at_;exact EL ok W ex es ec er hw hg
theorem Wk.ok(ok:P.Ok)(h:Wk P S a S2): ∀{N},gb P N S->gb P (N+a.length) S2:=by
 induction h with
 | nil=>exact λW=>W
 | cons h _ ih=>intro N W;have:=ih (h.ok ok W);rw[UU,Nat.add_comm _ 1,<- Zt];exact this
theorem Hg.sh(ok:P.Ok)(N9:N<=100)(W:gb P N S)(h:Hg P S j g l S1):j < P.hs.length/\Sh 0 0 g/\Sh 60 2 l:=by
 obtain⟨x,s,c,r,ex,es,ec,er,hw,hg,rfl,rfl⟩:=h.at_;obtain⟨m1,m2,m3⟩:=Cm (c:=c) ok N9 W ex es er hg;obtain⟨t1,t2⟩:=HD ok ex (UR er);exact⟨(UJ.mp ex).1,m1,(dc 1 (qR t1) (dc 1 (qR t2) (dc 1 m2 (dc 1 m3 (pH 1))))).up⟩
theorem Wk.sh(ok:P.Ok)(h:Wk P S a S2): ∀{N},N+a.length<=100->gb P N S-> ∀ z∈a,z.1 < P.hs.length/\Sh 0 0 z.2.1/\Sh 60 2 z.2.2:=by
 induction h with
 | nil=>simp_all
 | cons h _ ih =>
  intro N hN W z m
  rw[UU] at hN
  rcases UW.mp m with rfl | m
  . exact h.sh ok (by omega) W
  . exact ih (by omega) (h.ok ok W) z m
theorem AZ{P:Pg}(ok:P.Ok){a:List (Nat × PV × PV)}(hl:a.length<=100)(h: ∀ z∈a,z.1 < P.hs.length/\Sh 0 0 z.2.1/\Sh 60 2 z.2.2):Sh 300 2 (.tup (a.map cW))/\Sh 6300 4 (.tup (a.map Dg)):=by
 have hm:=ok.many;refine⟨(eN (b:=2) (d:=1) 100 hl λz m=>?_).up,(eN (b:=62) (d:=3) 100 hl λz m=>?_).up⟩
 . obtain⟨h1,h2,h3⟩:=h z m;exact dc 0 (bG (by omega) (by omega)) (dc 0 h2 (pH 0))
 . obtain⟨h1,h2,h3⟩:=h z m;exact dc 2 (bG (by omega) (by omega)) (dc 2 h3 (pH 2))
mutual
theorem eQ: ∀ v:PV,wU v=true->v.flat=true
 | .tup xs,h=>by rw[wU] at h;rw[PV.flat];exact qy xs h
 | .non,_=>rfl
 | .int _,_=>rfl
 | .str _,_=>rfl
theorem qy: ∀ xs:List PV,ki xs=true->PV.aU xs=true
 | [],_=>rfl
 | x::r,h=>by
  rw[ki,U3] at h;rw[PV.aU,eQ x h.1,qy r h.2];rfl
end
theorem B7:i7 [.tup xs,.ty "tuple"] h= .ok (.bl true) h:=rfl
def QX:=(gT 2 (aI (gN 5) (aI (gN 6) cZ)))
def Qw:=(ag (bB (kK (aA (ae "is_tuple_of" (a2 (aa 6) (eI 2))))) ie bF)
  (ag (ai (ae "stepped" (ab (aa 0) (a3 (aa 3) (aa 5) (aa 6)))) (gN 7))
  (ag (ai (eX 7 0) (gN 3))
  (cI (eM bw bM (aa 4) (ab (av (a2 (eX 6 0) (eX 7 1))) ah))))))
section
variable{pg:Tb}(T:bD pg)
include T
theorem n6 k h xs n:run pg (k+1) "is_tuple_of" [.tup xs,.int n] h= .ok (.bl (decide ((xs.length)=n))) h:=by
 rw[run_eq T.pK rfl];simp? [dA,ji,B7]
theorem wz k h (ok:P.Ok) (W:gb P N S) (N9:N<=60) (st:Hg P S j g l S1) p:run pg (k+14) "stepped" [P.v,aH S,p,cW (j,g,l)] h= .ok (.tup [aH S1,l]) h:=by
 obtain⟨x,s,c,r,ex,es,ec,er,hw,hg,rfl,rfl⟩:=st.at_;have ge:=xI T k h ok W N9 ex es ec er hw hg;rw[run_eq T.yK rfl];simp? [iS,qr,cW,jC,ge]
theorem yr k (h:PH) (ok:P.Ok) xs0 e1 e2 (w:Wk P S a S2): ∀{N},gb P N S->N+a.length<=60-> ∀ ts i e5 e6 e7,ts.length+a.length<=1000 ->
  ∃ f5 f6 f7 ,bh ⟨UB,xs0⟩ (bc QX Qw (run pg (k+14))) (((a.map cW).zipIdx i).map λq=>PV.tup [.int (q.2),q.1]) [fv P.v,e1,e2,fv (aH S),fv (.ref h.length),e5,e6,e7] (h++[.lst ts])= .ok (.nx [fv P.v,e1,e2,fv (aH S2),fv (.ref h.length),f5,f6,f7]) (h++[.lst (ts++a.map Dg)]):=by
 induction w with
 | nil S=>intro N _ _ ts i e5 e6 e7 _;exact⟨e5,e6,e7,by rw[VU,VU,Vp];exact eK⟩
 | @cons S S1 S2 j g l r st t ih =>
  intro N W hN ts i e5 e6 e7 hl
  rw[UU] at hN hl
  have se:=wz T k (h++[.lst ts]) ok W (by omega) st (.int (i))
  have it:run pg (k+14) "is_tuple_of" [.tup [jC j,g],.int 2] (h++[.lst ts])= .ok (.bl true) (h++[.lst ts]):=n6 T (k+13) (h++[.lst ts]) [jC j,g] 2
  have hz:ts.length < 16777216:=by omega
  obtain⟨f5,f6,f7,i1⟩:=ih (st.ok ok W) (by omega) (ts++[Dg (j,g,l)]) (i+1) (fv (.int i)) (fv (cW (j,g,l))) (fv (.tup [aH S1,l])) (by grind)
  refine⟨f5,f6,f7,?_⟩
  have stp:bc QX Qw (run pg (k+14)) (.tup [.int (i),cW (j,g,l)]) [fv P.v,e1,e2,fv (aH S),fv (.ref h.length),e5,e6,e7] (h++[.lst ts])= .ok (.nx [fv P.v,e1,e2,fv (aH S1),fv (.ref h.length),fv (.int i),fv (cW (j,g,l)),fv (.tup [aH S1,l])]) (h++[.lst (ts++[Dg (j,g,l)])]):=by
   unfold cW Dg at *;simp? [QX,Qw,it,se,uO hz]
  rw[UP,List.zipIdx_cons,UP,dq,stp,ck,bT,i1,UP,Vm]
  rfl
theorem zG k h (ok:P.Ok) (W:gb P N S) (hN:N+a.length<=60) (w:Wk P S a S2):run pg (k+15) "walked" [P.v,aH S,.tup (a.map cW)] h= .ok (.tup [aH S2,.tup (a.map Dg)]) h:=by
 obtain⟨f5,f6,f7,lp⟩:=yr T k h ok (((a.map cW).zipIdx 0).map λq=>PV.tup [.int (q.2),q.1]) (fv (aH S)) (fv (.tup (a.map cW))) w W hN [] 0 UB UB UB (by simp;omega);have z: ¬ (60) < ((a.map cW).length:Int):=by grind
 have sh:=w.sh ok (N:=N) (by omega) W;have fl:PV.flat (.tup [aH S2,.tup (a.map Dg)])=true:=by
  have f1:=eQ _ (vO ok (by omega) (w.ok ok W)).ok;have f2:=eQ _ (AZ ok (by omega) sh).2.ok;rw[PV.flat,PV.aU,PV.aU,f1,f2];rfl
 unfold QX Qw at lp;rw[run_eq T.Cn rfl];simp? [jJ,uF,B7,z,yf,tQ,lp];exact aF fl
end
def qw(x:Str × List Rw):=bV x.2 200 ⟨0,[],[]⟩
def MX(bs:List (Str × Int))(s1 s2 s3:List Str)(hs:List (Str × List Rw)):PV:= .tup [.tup (hs.map λ_=>PV.int 0),.tup (hs.map λx=>aw (qw x)),.tup (bs.map λb=>PV.tup [.int b.2,.non]),.tup (s1.map λ_=>PV.tup [.non,.non]),.tup (s2.map λ_=>PV.tup [.int 0,.int 0,.tup []]),.tup (s3.map λ_=>PV.int 0)]
theorem qe{α :Type}(hs:List α) f (d:PV):(Vq hs.length).filterMap (λi=>fv ((hs[i]?.map f).getD d))=hs.map f:=by
 rw[Yc];refine abA (by simp) λi h1 h2=>?_;simp at h1 h2 ⊢;rw[UQ (by omega)];rfl
theorem eY{α :Type} f (hf: ∀ x,(f x).flat=true): ∀ l:List α,PV.aU (l.map f)=true
 | []=>rfl
 | x::r=>by rw[UP,PV.aU,hf,eY f hf r];rfl
theorem Cv bs s1 s2 s3 hs:(MX bs s1 s2 s3 hs).flat=true:=by
 unfold MX;simp only[PV.flat,PV.aU,Bool.and_true,U3];exact⟨eY _ (λ_=>rfl) _,eY _ (λx=>jE _) _,eY _ (λ_=>rfl) _,eY _ (λ_=>rfl) _,eY _ (λ_=>rfl) _,eY _ (λ_=>rfl) _⟩
def kY(P:Pg):Wd:=⟨P.hs.map λ_=>0,P.hs.map qw,P.bs.map λz=>(z.2,.non),P.s1.map λ_=>(UB,.non),P.s2.map λ_=>(0,0,[]),P.s3.map λ_=>0⟩
theorem yP P:aH (kY P)=MX P.bs P.s1 P.s2 P.s3 P.hs:=by
 unfold aH kY MX;simp only[Wj];rfl
theorem rH(ok:P.Ok):gb P 0 (kY P) where
 lc:=UE ..
 ls:=UE ..
 l0:=UE ..
 l1:=UE ..
 l2:=UE ..
 l3:=UE ..
 ct c m:=by obtain⟨_,_,rfl⟩:=Vg.mp m;decide
 bx b m:=by obtain⟨z,mz,rfl⟩:=Vg.mp m;exact⟨(ok.bx.2 z mz).2,.inl rfl⟩
 lk l m:=by obtain⟨_,_,rfl⟩:=Vg.mp m;exact⟨λi e=>(by cases e),.inl rfl⟩
 ln n m:=by obtain⟨_,_,rfl⟩:=Vg.mp m;exact⟨by decide,by decide,by decide,λv mv=>(by cases mv)⟩
 dr d m:=by obtain⟨_,_,rfl⟩:=Vg.mp m;decide
 se j x s e1 e2:=by
  have e2':(P.hs.map qw)[j]?=fv s:=e2;rw[U1,e1] at e2';cases e2';obtain⟨l1,l2,l3⟩:=gI (ok.hd x (UR e1));have h0:(qw x).held=[]:=dv 200 ⟨0,[],[]⟩;exact⟨mN l3 200 _ ⟨.nil,Vw _⟩,by simp_all,by rw[h0];exact UL _,gq 200 _,by simp_all,by simp_all⟩
section
variable{pg:Tb}(T:bD pg)
include T
theorem nv k h {P} (ok:P.Ok):run pg (k+12) "first_stand" [P.v] h= .ok (aH (kY P)) h:=by
 rw[yP];obtain⟨bs,s1,s2,s3,hs⟩:=P;obtain⟨p,pa⟩: ∃ p,p=Pg.v ⟨bs,s1,s2,s3,hs⟩:=⟨_,rfl⟩
 rw[<- pa];show _=RV.ok (MX bs s1 s2 s3 hs) h;have hm:1<=hs.length/\hs.length<=4:=ok.many;have ho:run pg (k+11) "hands_of" [p] h= .ok (.ref h.length) (h++[.lst (ak 0 hs.length)]):=by
  rw[run_eq T.ni rfl,pa];unfold Pg.v;have tn:YO ((hs.length:Nat):Int)=hs.length:=VD _;simp? [eZ,jB,Hf,CA,UE,tn];exact bg rfl
 have lc: ∀(H:PH)(e:ME)(f:Nat->PV),H[h.length]?=fv (.lst (ak 0 hs.length))->(∀ i < hs.length,e (run pg (k+11)) [fv p,fv (.ref h.length),fv (.int (0+(i:Int)))] H= .ok (f i) H)->ia ⟨fv h.length,ak 0 hs.length⟩ (aX 1 (gN 2) aS e (run pg (k+11)) [fv p,fv (.ref h.length)]) (ak 0 hs.length) [] H= .ok ((Vq hs.length).filterMap λi=>fv (f i)) H:=λH e f hH he=>by
  refine(dC (iV hH) (Vq hs.length) [] (f:=λi=>fv (f i)) (g:=λi:Nat=>PV.int (0+(i))) (λi m=>?_) (by simp;omega)).trans (by rfl);have:=he i (W4.mp m);simp? [this]
 have lt: ∀{α :Type}(l:List α)(g f: α ->PV)(e:ME)(H:PH),l.length<=1000->(∀ x∈l,e (run pg (k+11)) [fv p,fv (.ref h.length),fv (g x)] H= .ok (f x) H)->ia ⟨UB,l.map g⟩ (aX 1 (gN 2) aS e (run pg (k+11)) [fv p,fv (.ref h.length)]) (l.map g) [] H= .ok (l.map f) H:=λl g f e H hl he=>by
  refine(dC rfl l [] (f:=λx=>fv (f x)) (g:=g) (λx m=>?_) (by simp;omega)).trans (by simp_all);have:=he x m;simp? [this]
 let A:=hs.map λ_=>PV.int 0
 let B:=hs.map λx=>aw (qw x)
 have n0: ∀ Y:PH,(h++ .lst (ak 0 hs.length)::Y)[h.length]?=fv (.lst (ak 0 hs.length)):=λY=>bu;have c1: ∀ Y:PH,ia ⟨fv h.length,ak 0 hs.length⟩ (aX 1 (gN 2) aS (eI 0) (run pg (k+11)) [fv p,fv (.ref h.length)]) (ak 0 hs.length) [] (h++ .lst (ak 0 hs.length)::Y)= .ok A (h++ .lst (ak 0 hs.length)::Y):=λY=>by
  rw[lc _ (eI 0) (λi=>((hs[i]?.map λ_=>PV.int 0).getD (.int 0))) (n0 Y) (λi hi=>by rw[GZ,UQ hi];rfl),qe]
 have c2: ∀ Y:PH,ia ⟨fv h.length,ak 0 hs.length⟩ (aX 1 (gN 2) aS (ae "first_seat" (a2 (aa 0) (aa 2))) (run pg (k+11)) [fv p,fv (.ref h.length)]) (ak 0 hs.length) [] (h++ .lst (ak 0 hs.length)::Y)= .ok B (h++ .lst (ak 0 hs.length)::Y):=λY=>by
  rw[lc _ (ae "first_seat" (a2 (aa 0) (aa 2))) (λi=>((hs[i]?.map λx=>aw (qw x)).getD .non)) (n0 Y) (λi hi=>?_),qe];have e:=UQ hi;obtain⟨_,L,l1,_,l3⟩:=ok.hd _ (Ws hi);have fs:run pg (k+11) "first_seat" [p,.int i] (h++ .lst (ak 0 hs.length)::Y)=_:=o9 T k _ (L:=L) (by omega) (by rw[pa];exact Pg.hand _ e) (λr m=>(l3 r m).1);rw[e];have iz:(0:Int)+(i:Int)=(i:Int):=YJ _;simp? [iz,fs];rfl
 have b20:bs.length<=20:=ok.bx.1;have n1:s1.length<=20:=ok.nm.1.1;have n2:s2.length<=20:=ok.nm.2.1.1;have n3:s3.length<=20:=ok.nm.2.2.1;have c3: ∀ H:PH,ia ⟨UB,bs.map fg⟩ (aX 1 (gN 2) aS (av (a2 (eX 2 1) (eC .non))) (run pg (k+11)) [fv p,fv (.ref h.length)]) (bs.map fg) [] H= .ok (bs.map λb=>PV.tup [.int b.2,.non]) H:=λH=>lt bs fg _ _ H (by omega) λx _=>by rfl
 have c4: ∀ H:PH,ia ⟨UB,s1.map PV.str⟩ (aX 1 (gN 2) aS (av (a2 (eC .non) (eC .non))) (run pg (k+11)) [fv p,fv (.ref h.length)]) (s1.map PV.str) [] H= .ok (s1.map λ_=>PV.tup [.non,.non]) H:=λH=>lt s1 PV.str _ _ H (by omega) λx _=>by rfl
 have c5: ∀ H:PH,ia ⟨UB,s2.map PV.str⟩ (aX 1 (gN 2) aS (av (a3 (eI 0) (eI 0) (av ah))) (run pg (k+11)) [fv p,fv (.ref h.length)]) (s2.map PV.str) [] H= .ok (s2.map λ_=>PV.tup [.int 0,.int 0,.tup []]) H:=λH=>lt s2 PV.str _ _ H (by omega) λx _=>by rfl
 have c6: ∀ H:PH,ia ⟨UB,s3.map PV.str⟩ (aX 1 (gN 2) aS (eI 0) (run pg (k+11)) [fv p,fv (.ref h.length)]) (s3.map PV.str) [] H= .ok (s3.map λ_=>PV.int 0) H:=λH=>lt s3 PV.str _ _ H (by omega) λx _=>rfl;have i0: ∀ H,aG p (.int 0) H= .ok (.tup (bs.map fg)) H:=λH=>by rw[pa];exact qI
 have i1: ∀ H,aG p (.int 1) H= .ok (.tup (s1.map PV.str)) H:=λH=>by rw[pa];exact vn
 have i2: ∀ H,aG p (.int 2) H= .ok (.tup (s2.map PV.str)) H:=λH=>by rw[pa];exact DZ
 have i3: ∀ H,aG p (.int 3) H= .ok (.tup (s3.map PV.str)) H:=λH=>by rw[pa];exact Gh
 rw[run_eq T.pL rfl];simp? [dF,jc,ho,c1,c2,c3,c4,c5,c6,i0,i1,i2,i3];exact aF (v:=MX bs s1 s2 s3 hs) (Cv ..)
end
noncomputable def uL(b0 b1 b2 b3 b4:Nat):List (Key × PV):=[(.inr "boxes",.ref (b0+1+1)),(.inr "locks",.ref (b1+1+1)),(.inr "lanes",.ref (b2+1+1)),(.inr "doors",.ref (b3+1+1)),(.inr "pockets",.ref (b4+1+1))]
section
variable{b0 b1 b2 b3 b4:Nat}
theorem GY:cv (uL b0 b1 b2 b3 b4) (.inr "boxes")=fv (.ref (b0+1+1)):=gx
theorem A3:cv (uL b0 b1 b2 b3 b4) (.inr "locks")=fv (.ref (b1+1+1)):=(bW (by decide +kernel)).trans gx
theorem BO:cv (uL b0 b1 b2 b3 b4) (.inr "lanes")=fv (.ref (b2+1+1)):=(bW (by decide +kernel)).trans ((bW (by decide +kernel)).trans gx)
theorem Hx:cv (uL b0 b1 b2 b3 b4) (.inr "doors")=fv (.ref (b3+1+1)):=(bW (by decide +kernel)).trans ((bW (by decide +kernel)).trans ((bW (by decide +kernel)).trans gx))
theorem PR:cv (uL b0 b1 b2 b3 b4) (.inr "pockets")=fv (.ref (b4+1+1)):=(bW (by decide +kernel)).trans ((bW (by decide +kernel)).trans ((bW (by decide +kernel)).trans ((bW (by decide +kernel)).trans gx)))
end
def Ux(ps:List Str):Prop:=0 < ps.length/\ps.length<=6/\ ∀ x∈ps,qY x=true
structure pe(J:PH)(nk:Nat)(s0 s1 s2 s3 ps:List Str):Prop where
 at_: ∃ b0 b1 b2 b3 b4:Nat,J[nk]?=fv (.dct (uL b0 b1 b2 b3 b4))/\J[b0]?=fv (.lst (s0.map PV.str))/\J[b1]?=fv (.lst (s1.map PV.str))/\J[b2]?=fv (.lst (s2.map PV.str))/\J[b3]?=fv (.lst (s3.map PV.str))/\J[b4]?=fv (.lst (ps.map PV.str))
 ok:E7 s0/\E7 s1/\E7 s2/\E7 s3
 ne:0 < s0.length
 pk:Ux ps
theorem pe.app{J g:PH}{nk:Nat}{s0 s1 s2 s3 ps:List Str}(h:pe J nk s0 s1 s2 s3 ps):pe (J++g) nk s0 s1 s2 s3 ps:=by
 obtain⟨b0,b1,b2,b3,b4,e,e0,e1,e2,e3,e4⟩:=h.at_;exact⟨⟨b0,b1,b2,b3,b4,(aP (bz e)).trans e,(aP (bz e0)).trans e0,(aP (bz e1)).trans e1,(aP (bz e2)).trans e2,(aP (bz e3)).trans e3,(aP (bz e4)).trans e4⟩,h.ok,h.ne,h.pk⟩
theorem Ga(h0:0<=v)(h1:v < 5): ∃ o:Bo,cR [PV.str "add",.str "sub",.str "mul",.str "less",.str "same"] v=fv (.str o.w):=by
 have:v=0\/v=1\/v=2\/v=3\/v=4:=by omega
 rcases this with rfl | rfl | rfl | rfl | rfl
 . exact⟨.add,rfl⟩
 . exact⟨.sub,rfl⟩
 . exact⟨.mul,rfl⟩
 . exact⟨.less,rfl⟩
 . exact⟨.same,rfl⟩
theorem CC{x y:PV}{p:Bool}: ∃ z,(z=x\/z=y)/\cR [x,y] (if p=true then 1 else 0)=fv z:=by
 cases p
 . exact⟨x,.inl rfl,rfl⟩
 . exact⟨y,.inr rfl,rfl⟩
section
variable{pg:Tb}(T:bD pg)
include T
theorem dh(j:Nat)(ns:List Int)(t:Tp){J:PH}{nk:Nat}{s0 s1 s2 s3 ps:List Str}(K:pe J nk s0 s1 s2 s3 ps): ∃(x:Str)(t':Tp),x∈ps/\run pg (j+2) "_law_pocket" [.ref 1,.ref (nk+1+1)] (aC ns::aB t::J)= .ok (.str x) (aC ns::aB t'::J):=by
 obtain⟨b0,b1,b2,b3,b4,e,e0,e1,e2,e3,e4⟩:=K.at_;obtain⟨p0,p9,_⟩:=K.pk;obtain⟨v,t',v0,v1,ev⟩:=aR T j ns t ps.length (by omega) (by omega);obtain⟨x,hx,ex⟩:=hU v0 v1;refine⟨x,t',hx,?_⟩;rw[run_eq T.oR rfl];simp? [dB,jj,e,e4,PR,UE,ev,ex];exact f9
theorem K0(ns:List Int){nk:Nat}{s0 s1 s2 s3 ps:List Str}(j:Nat): ∀(d:Nat)(t:Tp)(J:PH),pe J nk s0 s1 s2 s3 ps ->
  ∃(e:Sm)(t':Tp),e.ok/\e.dp<=d+1/\run pg (j+d+3) "_law_sum" [.ref 1,.ref (nk+1+1),.int d] (aC ns::aB t::J)= .ok (iM e) (aC ns::aB t'::J):=by
 have one: ∀(k:Nat)(d:Int)(t:Tp)(J:PH)(w:Int),pe J nk s0 s1 s2 s3 ps->d=0\/w < 4-> ∃(e:Sm)(t':Tp)(G:PH),e.ok/\e.dp=1/\ ∀ rest:MS,
   ag (bB (zW (mQ (aa 2) (eI 0)) (aA (ao vc (aa 3) (eI 4)))) (ag (bB (aA (ao ja (ao gz (aa 3) (eI 2)) (eI 0))) (ar (av (ab (eS "of") (ab (ae "_law_pocket" (a2 (aa 0) (aa 1))) ah)))) bF)
  (ar (av (ab (eS "num") (ab (ao aG (aK (ab (ae "_law_draw" (a2 (aa 0) (eI 4))) (ab (ae "_law_draw" (a2 (aa 0) (eI 1000))) ah))) (eB uB (ab (ao ja (ae "_law_draw" (a2 (aa 0) (eI 5))) (eI 0)) ah))) ah))))) bF) rest (run pg (k+2)) [fv (.ref 1),fv (.ref (nk+1+1)),fv (.int d),fv (.int w),UB,UB] (aC ns::aB t::J)= .ok (.rt (iM e)) (aC ns::aB t'::(J++G)):=λk d t J w K hw=>by
  by_cases y:w % 2=0
  . obtain⟨x,t',hx,ex⟩:=dh T k ns t K;refine⟨.of x,t',[],trivial,rfl,λrest=>?_⟩;rw[Vp];by_cases z:d=0
    . simp? [z,y,ex,iM]
    . have z2:w < 4:=hw.resolve_left z;simp? [z,z2,y,ex,iM]
  . obtain⟨a,t1,a0,a1,ea⟩:=aR T (k+1) ns t 4 (by decide) (by decide);obtain⟨b,t2,b0,b1,eb⟩:=aR T (k+1) ns t1 1000 (by decide) (by decide);obtain⟨c,t3,c0,c1,ec⟩:=aR T (k+1) ns t2 5 (by decide) (by decide);obtain⟨z,hz,ez⟩:=CC (x:= .int a) (y:= .int b) (p:=decide (c=0));obtain⟨n,n0,n9,rfl⟩: ∃ n:Int,0<=n/\n<=999/\z= .int n:=by
     rcases hz with rfl | rfl
     . exact⟨a,a0,by omega,rfl⟩
     . exact⟨b,b0,by omega,rfl⟩
    refine⟨.num n,t3,[.lst [.int a,.int b]],⟨n0,n9⟩,rfl,λrest=>?_⟩;by_cases z:d=0
    . simp? [z,y,ea,eb,ec,ez,iM]
    . have z2:w < 4:=hw.resolve_left z;simp? [z,z2,y,ea,eb,ec,ez,iM]
 intro d
 induction d with
 | zero =>
  intro t J K
  obtain⟨w,t1,w0,w1,ew⟩:=aR T (j+1) ns t 8 (by decide) (by decide)
  obtain⟨e,t',G,h1,h2,h4⟩:=one j (((0:Nat):Int)) t1 J w K (.inl rfl)
  refine⟨e,t',h1,by omega,?_⟩
  rw[Nat.add_zero,run_eq T.gR rfl]
  simp? [cD,fc,ew,↓h4,ee (fk e)]
 | succ d ih =>
  intro t J K
  have dd:((d+1:Nat):Int) - 1=(d:Int):=by omega
  have dn: ¬ ((d+1:Nat):Int)=0:=by omega
  obtain⟨w,t1,w0,w1,ew⟩:=aR T (j+d+2) ns t 8 (by decide) (by decide)
  rw[show j+(d+1)+3=(j+d+3)+1 by omega]
  by_cases c1:w < 4
  . obtain⟨e,t',G,h1,h2,h4⟩:=one (j+d+1) ((d+1:Nat):Int) t1 J w K (.inr c1);refine⟨e,t',h1,by omega,?_⟩;rw[run_eq T.gR rfl];simp? [cD,fc,ew,↓h4,ee (fk e)]
  . by_cases c3:w=4
    . obtain⟨e,t2,h1,h2,h4⟩:=ih t1 J K;refine⟨.un e,t2,h1,by unfold Sm.dp;omega,?_⟩;subst c3;rw[run_eq T.gR rfl];simp? [cD,fc,ew,dn,dd,h4];exact f9 (v:=iM (.un e))
    . let W:PH:=[.lst [.str "add",.str "sub",.str "mul",.str "less",.str "same"]]
      obtain⟨a,t2,a0,a1,ea⟩:=aR T (j+d+2) ns t1 5 (by decide) (by decide);obtain⟨o,eo⟩:=Ga a0 a1;obtain⟨e,t3,h1,h2,h4⟩:=ih t2 (J++W) K.app;obtain⟨f,t4,i1,i2,i4⟩:=ih t3 (J++W) K.app;refine⟨.bin o e f,t4,⟨h1,i1⟩,by unfold Sm.dp;omega,?_⟩;rw[run_eq T.gR rfl];simp only[W] at h4 i4;simp? [cD,fc,ew,dn,dd,c1,c3,ea,eo,h4,i4];exact ee (v:=iM (.bin o e f)) (fk _)
end
def qS(s0 s1 s2 s3 ps:List Str)(r:Rw):Prop:=(∀ n,fO ps n r)/\C6 s0 s1 s2 s3 r
section
variable{pg:Tb}(T:bD pg)
include T
theorem sum2(j:Nat)(ns:List Int){nk:Nat}{s0 s1 s2 s3 ps:List Str}(d:Nat)(d2:d<=2)(t:Tp){J:PH}(K:pe J nk s0 s1 s2 s3 ps): ∃(e:Sm)(t':Tp),nV e/\run pg (j+5) "_law_sum" [.ref 1,.ref (nk+1+1),.int d] (aC ns::aB t::J)= .ok (iM e) (aC ns::aB t'::J):=by
 obtain⟨e,t',h1,h2,h3⟩:=K0 T ns (j+2 - d) d t J K;exact⟨e,t',⟨h1,by omega⟩,by rw[show j+2 - d+d+3=j+5 by omega] at h3;exact h3⟩
theorem pU(j:Nat)(ns:List Int)(t:Tp){J:PH}{nk:Nat}{s0 s1 s2 s3 ps:List Str}(K:pe J nk s0 s1 s2 s3 ps): ∃(r:Rw)(t':Tp),qS s0 s1 s2 s3 ps r/\run pg (j+6) "_law_at_box" [.ref 1,.ref (nk+1+1)] (aC ns::aB t::J)= .ok (bC r) (aC ns::aB t'::J):=by
 obtain⟨b0,b1,b2,b3,b4,e,e0,e1,e2,e3,e4⟩:=K.at_;have n0:=K.ne;have n9:=K.ok.1.1;obtain⟨v,t1,v0,v1,ev⟩:=aR T (j+4) ns t s0.length (by omega) (by omega);obtain⟨x,hx,ex⟩:=hU v0 v1;obtain⟨w,t2,w0,w1,ew⟩:=aR T (j+4) ns t1 2 (by decide) (by decide);by_cases z:w=0
 . obtain⟨y,t3,hy,ey⟩:=dh T (j+3) ns t2 K;refine⟨.get y x,t3,⟨λ_=>hy,λk u h=>by cases h;exact hx⟩,?_⟩;subst z;rw[run_eq T.je rfl];simp? [cw,fN,e,e0,GY,UE,ev,ex,ew,ey,bC,Rw.w,Rw.ps];exact f9
 . obtain⟨s,t3,hs,es⟩:=sum2 T j ns 2 (by decide) t2 K;refine⟨.put x s,t3,⟨λ_=>hs,λk u h=>by cases h;exact hx⟩,?_⟩;have es':run pg (j+5) "_law_sum" [.ref 1,.ref (nk+1+1),.int 2] (aC ns::aB t2::J)= .ok (iM s) (aC ns::aB t3::J):=es;rw[run_eq T.je rfl];simp? [cw,fN,e,e0,GY,UE,ev,ex,ew,z,es',bC,Rw.w,Rw.ps];exact f9 (v:=bC (.put x s))
end
theorem Ou{α β :Type}{fr:PO}{J:PH}{it:va}(fi: ∀ t,it.lY (fr::aB t::J)=true){g: β ->PV}{f: α ->PV}{key: α -> β}{Q: α ->Prop}{st:PV->PH->RV (Option PV)} :
  ∀(xs:List β)(ys:List PV)(t:Tp),(∀ x∈xs,∀ t,∃ r t',key r=x/\Q r/\st (g x) (fr::aB t::J)= .ok (fv (f r)) (fr::aB t'::J))->ys.length+xs.length<=1000 ->
  ∃(rs:List α)(t':Tp),rs.map key=xs/\(∀ r∈rs,Q r)/\P3.ia it st (xs.map g) ys (fr::aB t::J)= .ok (ys++rs.map f) (fr::aB t'::J)
 | [],ys,t,_,_=>⟨[],t,rfl,(λr m=>by cases m),by rw[VU,P3.ia,if_pos (fi t)];simp⟩
 | x::xs,ys,t,h,hl=>by
  rw[UU] at hl;obtain⟨r,t1,k1,q1,e1⟩:=h x UX t;obtain⟨rs,t2,k2,q2,e2⟩:=Ou fi xs (ys++[f r]) t1 (λx m=>h x (UZ _ m)) (by simp only[U5,UU,V8];omega);refine⟨r::rs,t2,by rw[UP,k1,k2],λz m=>?_,?_⟩
  . rcases UW.mp m with rfl | m
    . exact q1
    . exact q2 z m
  . have hl':ys.length < UK:=by show ys.length < 16777216;omega
    rw[UP,P3.ia,if_pos ⟨fi t,hl'⟩,e1,qJ];simp only;rw[e2,Vm];rfl
def SV(h:PH)(a b:Option PO):RV PV:=match a,b with
 | some (.lst xs),fv (.lst ys)=>Pq (xs++ys) h
 | _,_=> .no
section
variable{h:PH}{n m:Nat}{xs ys:List PV}{x:PV}{p:Bool}
theorem RM:aL (.ref n) (.ref m) h=SV h (h[n]?) (h[m]?):=(rfl)
theorem R4(hl:xs.length+ys.length<=16777216):SV h (fv (.lst xs)) (fv (.lst ys))= .ok (.ref h.length) (h++[.lst (xs++ys)]):=nH (by simpa using hl)
theorem Q4(e:h[n]?=fv (.lst [x])):cb (.ref n) (.int (if p=true then 1 else 0)) h= .ok (.ref h.length) (h++[.lst (if p=true then[x] else[])]):=by
 cases p
 . simp only[cb,e,Xc,if_false];exact if_pos ⟨by decide,by show 1*_<=16777216;decide⟩
 . simp only[cb,e,if_true];exact if_pos ⟨by decide,by show 1*_<=16777216;decide⟩
end
structure Made(s0 s1 s2 s3 ps:List Str)(m:Nat)(X:PH)(i:Nat)(rs:List Rw):Prop where
 at_:X[i]?=fv (.lst (rs.map bC))
 le:rs.length<=m
 all: ∀ r∈rs,qS s0 s1 s2 s3 ps r
theorem eU{s0 s1 s2 s3 ps:List Str}{r:Rw}(X:PH)(h:qS s0 s1 s2 s3 ps r):Made s0 s1 s2 s3 ps 4 (X++[.lst [bC r]]) X.length [r] :=
 ⟨bu,by simp,λz m=>by rw[Vz.mp m];exact h⟩
section
variable{pg:Tb}(T:bD pg)
include T
theorem vH(j:Nat)(ns:List Int)(t:Tp){J:PH}{nk:Nat}{s0 s1 s2 s3 ps:List Str}(K:pe J nk s0 s1 s2 s3 ps)(l0:0 < s1.length): ∃(rs:List Rw)(X:PH)(i:Nat)(t':Tp),Made s0 s1 s2 s3 ps 4 X i rs/\run pg (j+7) "_law_by_lock" [.ref 1,.ref (nk+1+1)] (aC ns::aB t::J)= .ok (.ref (J.length+i+1+1)) (aC ns::aB t'::(J++X)):=by
 obtain⟨b0,b1,b2,b3,b4,e,e0,e1,e2,e3,e4⟩:=K.at_;have n9:=K.ok.2.1.1;obtain⟨v,t1,v0,v1,ev⟩:=aR T (j+5) ns t s1.length (by omega) (by omega);obtain⟨l,hl,el⟩:=hU v0 v1;obtain⟨w,t2,w0,w1,ew⟩:=aR T (j+5) ns t1 3 (by decide) (by decide)
 let W:PH:=[.lst [bC (.take l)]]
 obtain⟨rs,t3,k3,q3,h3⟩:=Ou (fr:=aC ns) (J:=J++W) (it:=⟨UB,ak 0 w.toNat⟩) (λ_=>rfl) (g:=λx:PV=>x) (f:=λz:PV × Rw=>bC z.2) (key:=λz=>z.1) (Q:=λz=>qS s0 s1 s2 s3 ps z.2)
  (st:=aX 1 (gN 4) aS (ae "_law_at_box" (a2 (aa 0) (aa 1))) (run pg (j+6)) [fv (.ref 1),fv (.ref (nk+1+1)),fv (.str l),UB]) (ak 0 w.toNat) [] t2 (λx _ t=>by
   obtain⟨r,t',h1,h2⟩:=pU T j ns t (J:=J++W) K.app;refine⟨(x,r),t',rfl,h1,?_⟩;simp? [h2]) (by simp[ak];omega)
 rw[List.map_id',VJ] at h3;have le:rs.length<=2:=by
  have:=congrArg Yo k3;rw[UE] at this;rw[this];simp[ak];omega
 obtain⟨u,t4,u0,u1,eu⟩:=aR T (j+5) ns t3 6 (by decide) (by decide);have z1:(rs.map λz:PV × Rw=>bC z.2)=(rs.map (·.2)).map bC:=by rw[Wj];rfl
 have z2:(rs.map (·.2)).length<=2:=by rw[UE];exact le
 have z3: ∀ r∈rs.map (·.2),qS s0 s1 s2 s3 ps r:=λr m=>by obtain⟨z,mz,rfl⟩:=Vg.mp m;exact q3 z mz
 rw[z1] at h3;generalize rs.map (·.2)=rs at h3 z2 z3
 let p:Bool:=decide (0 < u)
 have zl:([bC (.take l)]:List PV).length+(rs.map bC).length<=16777216:=by rw[UE];simp;omega
 have zm:(bC (.take l)::rs.map bC).length+(if p=true then[bC (.free l)] else[]).length<=16777216:=by rw[UU,UE];split<;>simp<;>omega
 refine⟨.take l::rs++(if p=true then[.free l] else[]),[.lst [bC (.take l)],.lst (rs.map bC),.lst (bC (.take l)::rs.map bC),.lst [bC (.free l)],.lst (if p=true then[bC (.free l)] else[]),.lst (bC (.take l)::rs.map bC++if p=true then[bC (.free l)] else[])],5,t4,⟨?_,?_,?_⟩,?_⟩
 . show fv _=fv _;cases p<;>simp
 . cases p<;>simp<;>omega
 . intro r m;have th: ∀ r:Rw,r= .take l\/r= .free l->qS s0 s1 s2 s3 ps r:=λr h=>by
    rcases h with rfl | rfl
    . exact⟨λ_=>trivial,λk u h=>by cases h;exact hl⟩
    . exact⟨λ_=>trivial,λk u h=>by cases h;exact hl⟩
   rcases V6.mp m with m | m
   . rcases UW.mp m with m | m
     . exact th _ (.inl m)
     . exact z3 r m
   . split at m
     . exact th _ (.inr (Vz.mp m))
     . cases m
 . have rp:=λ(h:PH) (n:Nat) (x:PV) (e:h[n]?=fv (.lst [x]))=>Q4 (p:=p) e;have ep:(if decide (0 < u)=true then(1:Int) else 0)=if p=true then 1 else 0:=rfl
   have ft:PV.tup [.str "take",.str l]=bC (.take l):=rfl;have ff:PV.tup [.str "free",.str l]=bC (.free l):=rfl;rw[run_eq T.m5 rfl];simp only[W] at h3;have rp':cb (.ref (J.length+(0+1+1+1)+1+1)) (.int (if p=true then 1 else 0)) (aC ns::aB t4::(J++[.lst [bC (.take l)],.lst (rs.map bC),.lst (bC (.take l)::rs.map bC),.lst [bC (.free l)]]))=_:=rp _ _ (bC (.free l)) (by rw[UG,UG,aQ];rfl);simp? (disch:=first | omega | exact zl | exact zm) only[cQ,iA,e,e1,A3,UE,ev,el,ew,ft,ff,h3,RM,R4,eu,ep,rp'];exact bg rfl
end
def Ud:MS:=(ai (ae "_law_draw" (a2 (aa 0) (eI 12))) (gN 2))
def Se:MS:=(bB (aA (ao vc (aa 2) (eI 4))) (ar (aK (ab (ae "_law_at_box" (a2 (aa 0) (aa 1))) ah))) bF)
def Qv:MS:=(bB (lX (aA (ao vc (aa 2) (eI 6))) (aA (ao g7 (ao aG (aa 1) (eS "locks")) (aK ah)))) (ar (ae "_law_by_lock" (a2 (aa 0) (aa 1)))) bF)
def PX:MS:=(bB (lX (aA (ao vc (aa 2) (eI 8))) (aA (ao g7 (ao aG (aa 1) (eS "lanes")) (aK ah)))) (ag (ai (ao aG (ao aG (aa 1) (eS "lanes")) (ae "_law_draw" (ab (aa 0) (ab (eB bH (ab (ao aG (aa 1) (eS "lanes")) ah)) ah)))) (gN 3)) (ag (bB (aA (ao vc (ae "_law_draw" (a2 (aa 0) (eI 5))) (eI 3))) (ar (aK (ab (av (ab (eS "send") (ab (aa 3) (ab (ae "_law_sum" (a3 (aa 0) (aa 1) (eI 1))) ah)))) ah))) bF) (ar (aK (ab (av (ab (eS "fetch") (ab (ae "_law_pocket" (a2 (aa 0) (aa 1))) (a1 (aa 3))))) ah))))) bF)
def QC:MS:=(bB (lX (mQ (aa 2) (eI 8)) (aA (ao g7 (ao aG (aa 1) (eS "doors")) (aK ah)))) (ag (ai (ao aG (ao aG (aa 1) (eS "doors")) (ae "_law_draw" (ab (aa 0) (ab (eB bH (ab (ao aG (aa 1) (eS "doors")) ah)) ah)))) (gN 4)) (ar (aK (ab (ao aG (aK (ab (av (ab (eS "say") (ab (aa 4) (ab (ae "_law_sum" (a3 (aa 0) (aa 1) (eI 1))) ah)))) (ab (av (ab (eS "hear") (ab (ae "_law_pocket" (a2 (aa 0) (aa 1))) (a1 (aa 4))))) ah))) (ae "_law_draw" (a2 (aa 0) (eI 2)))) ah)))) bF)
def Rj:MS:=(bB (mQ (aa 2) (eI 9)) (ar (aK (ab (av (ab (eS "clock") (ab (ae "_law_pocket" (a2 (aa 0) (aa 1))) ah))) ah))) bF)
def RD:MS:=(bB (mQ (aa 2) (eI 10)) (ar (aK (ab (av (ab (eS "lot") (ab (ae "_law_pocket" (a2 (aa 0) (aa 1))) (ab (ao aG (aK (a3 (eI 2) (eI 3) (eI 1000))) (ae "_law_draw" (a2 (aa 0) (eI 3)))) ah)))) ah))) bF)
def TH:MS:=(ar (aK (ab (av (ab (eS "let") (ab (ae "_law_pocket" (a2 (aa 0) (aa 1))) (ab (ae "_law_sum" (a3 (aa 0) (aa 1) (eI 2))) ah)))) ah)))
def JR:MS:=TH
def Ly:MS:=ag RD JR
def KU:MS:=ag Rj Ly
def Mb:MS:=ag QC KU
def FF:MS:=ag PX Mb
def KP:MS:=ag Qv FF
def Ik:MS:=ag Se KP
def tF(pg:Tb)(j:Nat)(ns:List Int)(nk:Nat)(s0 s1 s2 s3 ps:List Str)(w:Int)(m:MS):Prop:= ∀(t:Tp)(J:PH),pe J nk s0 s1 s2 s3 ps-> ∃(rs:List Rw)(X:PH)(i:Nat)(t':Tp),Made s0 s1 s2 s3 ps 4 X i rs /\
 m (run pg (j+7)) [fv (.ref 1),fv (.ref (nk+1+1)),fv (.int w),UB,UB] (aC ns::aB t::J)= .ok (.rt (.ref (J.length+i+1+1))) (aC ns::aB t'::(J++X))
theorem xl{s0 s1 s2 s3 ps:List Str}{m:Nat}{X:PH}{i:Nat}{rs:List Rw}(Y:PH)(h:Made s0 s1 s2 s3 ps m X i rs):Made s0 s1 s2 s3 ps m (Y++X) (Y.length+i) rs:=⟨by rw[aQ];exact h.at_,h.le,h.all⟩
theorem jU{pg:Tb}{j:Nat}{ns:List Int}{nk:Nat}{s0 s1 s2 s3 ps:List Str}{w:Int}{a b:MS}{t:Tp}{J:PH}(Y:PH)(K:pe J nk s0 s1 s2 s3 ps)(h:tF pg j ns nk s0 s1 s2 s3 ps w b)
  (ea:a (run pg (j+7)) [fv (.ref 1),fv (.ref (nk+1+1)),fv (.int w),UB,UB] (aC ns::aB t::J)= .ok (.nx [fv (.ref 1),fv (.ref (nk+1+1)),fv (.int w),UB,UB]) (aC ns::aB t::(J++Y))) :
  ∃(rs:List Rw)(X:PH)(i:Nat)(t':Tp),Made s0 s1 s2 s3 ps 4 X i rs/\ag a b (run pg (j+7)) [fv (.ref 1),fv (.ref (nk+1+1)),fv (.int w),UB,UB] (aC ns::aB t::J)= .ok (.rt (.ref (J.length+i+1+1))) (aC ns::aB t'::(J++X)):=by
 obtain⟨rs,X,i,t',h1,h2⟩:=h t (J++Y) K.app;refine⟨rs,Y++X,Y.length+i,t',xl Y h1,?_⟩;rw[aO ea,h2,Vm,U5,Zt J.length]
theorem Ew{c:Int}(c0:0<=c)(c1:c < 3): ∃ n:Int,2<=n/\n<=1000/\cR [PV.int 2,.int 3,.int 1000] c=fv (.int n):=by
 rcases(show c=0\/c=1\/c=2 by omega) with rfl | rfl | rfl<;>exact⟨_,by decide,by decide,rfl⟩
theorem we{fr:PO}{t:Tp}{J:PH}{b:Nat}{ss:List Str}(e:J[b]?=fv (.lst (ss.map PV.str)))(ok:E7 ss):g7 (.ref (b+1+1)) (.ref (J.length+1+1)) (fr::aB t::(J++[.lst []]))= .ok (.bl (!decide (ss=[]))) (fr::aB t::(J++[.lst []])) :=
 ne_nil (ss:=ss) (by rw[UG,UG];exact(aP (bz e)).trans e) (by rw[UG,UG];exact bu) λx m=>(ok.2 x m).2
section
variable{pg:Tb}(T:bD pg){j:Nat}{ns:List Int}{nk:Nat}{s0 s1 s2 s3 ps:List Str}{w:Int}
include T
theorem Jy:tF pg j ns nk s0 s1 s2 s3 ps w JR:=λt J K=>by
 obtain⟨y,t1,hy,ey⟩:=dh T (j+5) ns t K;obtain⟨s,t2,hs,es⟩:=sum2 T (j+2) ns 2 (by decide) t1 K;have es':run pg (j+7) "_law_sum" [.ref 1,.ref (nk+1+1),.int 2] (aC ns::aB t1::J)= .ok (iM s) (aC ns::aB t2::J):=es;refine⟨[.let_ y s],_,_,t2,eU [] ⟨λ_=>⟨hy,hs⟩,λk u h=>nomatch h⟩,?_⟩;simp? [JR,TH,ey,es',bC,Rw.w,Rw.ps]
theorem L9:tF pg j ns nk s0 s1 s2 s3 ps w Ly:=λt J K=>by
 by_cases z:w=10
 . obtain⟨y,t1,hy,ey⟩:=dh T (j+5) ns t K;obtain⟨c,t2,c0,c1,ec⟩:=aR T (j+6) ns t1 3 (by decide) (by decide);obtain⟨n,n0,n9,en⟩:=Ew c0 c1;subst z;refine⟨[.lot y n],_,_,t2,eU [.lst [.int 2,.int 3,.int 1000]] ⟨λ_=>⟨hy,n0,n9⟩,λk u h=>nomatch h⟩,?_⟩;simp? [Ly,RD,ey,ec,en,bC,Rw.w,Rw.ps]
 . refine jU [] K (Jy T) ?_;rw[Vp];simp? [RD,z]
theorem Au:tF pg j ns nk s0 s1 s2 s3 ps w KU:=λt J K=>by
 by_cases z:w=9
 . obtain⟨y,t1,hy,ey⟩:=dh T (j+5) ns t K;subst z;refine⟨[.clock y],_,_,t1,eU [] ⟨λ_=>hy,λk u h=>nomatch h⟩,?_⟩;simp? [KU,Rj,ey,bC,Rw.w,Rw.ps]
 . refine jU [] K (L9 T) ?_;rw[Vp];simp? [Rj,z]
theorem CY:tF pg j ns nk s0 s1 s2 s3 ps w Mb:=λt J K=>by
 obtain⟨b0,b1,b2,b3,b4,e,e0,e1,e2,e3,e4⟩:=K.at_;have ne:=we (fr:=aC ns) (t:=t) e3 K.ok.2.2.2;by_cases z:w=8
 . subst z;by_cases y:s3=[]
   . have d0:decide (s3=[])=true:=decide_eq_true y;rw[d0] at ne;refine jU [.lst []] K (Au T) ?_;simp? [QC,e,Hx,ne]
   . have d0:decide (s3=[])=false:=decide_eq_false y;rw[d0] at ne;have n9:=K.ok.2.2.2.1;have l0:0 < s3.length:=XB.mpr y;obtain⟨v,t1,v0,v1,ev⟩:=aR T (j+6) ns t s3.length (by omega) (by omega);obtain⟨d,hd,ed⟩:=hU v0 v1;have K1:pe (J++[.lst []]) nk s0 s1 s2 s3 ps:=K.app;obtain⟨s,t2,hs,es⟩:=sum2 T (j+2) ns 1 (by decide) t1 K1;have es':run pg (j+7) "_law_sum" [.ref 1,.ref (nk+1+1),.int 1] (aC ns::aB t1::(J++[.lst []]))= .ok (iM s) (aC ns::aB t2::(J++[.lst []])):=es;obtain⟨p,t3,hp,ep⟩:=dh T (j+5) ns t2 K1;obtain⟨c,t4,c0,c1,ec⟩:=aR T (j+6) ns t3 2 (by decide) (by decide);have old: ∀{n:Nat}{o:PO},J[n]?=fv o->(J++[PO.lst []])[n]?=fv o:=λe=>(aP (bz e)).trans e;have oe:=old e;have oe3:=old e3;obtain⟨r,hr,er⟩: ∃ r:Rw,qS s0 s1 s2 s3 ps r/\cR [bC (.say d s),bC (.hear p d)] c=fv (bC r):=by
      rcases(show c=0\/c=1 by omega) with rfl | rfl
      . exact⟨.say d s,⟨λ_=>hs,λk u h=>by cases h;exact hd⟩,rfl⟩
      . exact⟨.hear p d,⟨λ_=>hp,λk u h=>by cases h;exact hd⟩,rfl⟩
     refine⟨[r],_,_,t4,eU [.lst [],.lst [bC (.say d s),bC (.hear p d)]] hr,?_⟩;have er':cR [PV.tup [.str "say",.str d,iM s],.tup [.str "hear",.str p,.str d]] c=fv (bC r):=er;simp? [Mb,QC,e,Hx,ne,oe,oe3,UE,ev,ed,es',ep,ec,er'];rfl
 . refine jU [] K (Au T) ?_;rw[Vp];simp? [QC,z]
theorem CU:tF pg j ns nk s0 s1 s2 s3 ps w FF:=λt J K=>by
 obtain⟨b0,b1,b2,b3,b4,e,e0,e1,e2,e3,e4⟩:=K.at_;have ne:=we (fr:=aC ns) (t:=t) e2 K.ok.2.2.1;by_cases z:w < 8
 . by_cases y:s2=[]
   . have d0:decide (s2=[])=true:=decide_eq_true y;rw[d0] at ne;refine jU [.lst []] K (CY T) ?_;simp? [PX,z,e,BO,ne]
   . have d0:decide (s2=[])=false:=decide_eq_false y;rw[d0] at ne;have n9:=K.ok.2.2.1.1;have l0:0 < s2.length:=XB.mpr y;obtain⟨v,t1,v0,v1,ev⟩:=aR T (j+6) ns t s2.length (by omega) (by omega);obtain⟨d,hd,ed⟩:=hU v0 v1;obtain⟨c,t2,c0,c1,ec⟩:=aR T (j+6) ns t1 5 (by decide) (by decide);have K1:pe (J++[.lst []]) nk s0 s1 s2 s3 ps:=K.app;have old: ∀{n:Nat}{o:PO},J[n]?=fv o->(J++[PO.lst []])[n]?=fv o:=λe=>(aP (bz e)).trans e;have oe:=old e;have oe2:=old e2;by_cases x:c < 3
     . obtain⟨s,t3,hs,es⟩:=sum2 T (j+2) ns 1 (by decide) t2 K1;have es':run pg (j+7) "_law_sum" [.ref 1,.ref (nk+1+1),.int 1] (aC ns::aB t2::(J++[.lst []]))= .ok (iM s) (aC ns::aB t3::(J++[.lst []])):=es;refine⟨[.send d s],_,_,t3,eU [.lst []] ⟨λ_=>hs,λk u h=>by cases h;exact hd⟩,?_⟩;simp? [FF,PX,z,e,BO,ne,oe,oe2,UE,ev,ed,ec,x,es',bC,Rw.w,Rw.ps]
     . obtain⟨p,t3,hp,ep⟩:=dh T (j+5) ns t2 K1;refine⟨[.fetch p d],_,_,t3,eU [.lst []] ⟨λ_=>hp,λk u h=>by cases h;exact hd⟩,?_⟩;simp? [FF,PX,z,e,BO,ne,oe,oe2,UE,ev,ed,ec,x,ep,bC,Rw.w,Rw.ps]
 . refine jU [] K (CY T) ?_;rw[Vp];simp? [PX,z]
theorem HQ:tF pg j ns nk s0 s1 s2 s3 ps w KP:=λt J K=>by
 obtain⟨b0,b1,b2,b3,b4,e,e0,e1,e2,e3,e4⟩:=K.at_;have ne:=we (fr:=aC ns) (t:=t) e1 K.ok.2.1;by_cases z:w < 6
 . by_cases y:s1=[]
   . have d0:decide (s1=[])=true:=decide_eq_true y;rw[d0] at ne;refine jU [.lst []] K (CU T) ?_;simp? [Qv,z,e,A3,ne]
   . have d0:decide (s1=[])=false:=decide_eq_false y;rw[d0] at ne;have l0:0 < s1.length:=XB.mpr y;obtain⟨rs,X,i,t1,h1,h2⟩:=vH T j ns t (J:=J++[.lst []]) K.app l0;refine⟨rs,_,_,t1,xl [.lst []] h1,?_⟩;rw[U5,Vm,Zt J.length] at h2;simp? [KP,Qv,z,e,A3,ne,h2]
 . refine jU [] K (CU T) ?_;rw[Vp];simp? [Qv,z]
theorem Js:tF pg j ns nk s0 s1 s2 s3 ps w Ik:=λt J K=>by
 by_cases z:w < 4
 . obtain⟨r,t1,hr,er⟩:=pU T (j+1) ns t K;refine⟨[r],_,_,t1,eU [] hr,?_⟩;simp? [Ik,Se,z,er]
 . refine jU [] K (HQ T) ?_;rw[Vp];simp? [Se,z]
theorem AL(t:Tp){J:PH}(K:pe J nk s0 s1 s2 s3 ps): ∃(rs:List Rw)(X:PH)(i:Nat)(t':Tp),Made s0 s1 s2 s3 ps 4 X i rs/\run pg (j+8) "_law_piece" [.ref 1,.ref (nk+1+1)] (aC ns::aB t::J)= .ok (.ref (J.length+i+1+1)) (aC ns::aB t'::(J++X)):=by
 obtain⟨w,t1,w0,w1,ew⟩:=aR T (j+6) ns t 12 (by decide) (by decide);obtain⟨rs,X,i,t',h1,h2⟩:=Js T (j:=j) (ns:=ns) (w:=w) t1 J K;refine⟨rs,X,i,t',h1,?_⟩;have A:jK (run pg (j+7)) [fv (.ref 1),fv (.ref (nk+1+1)),UB,UB,UB] (aC ns::aB t::J)= .ok (.rt (.ref (J.length+i+1+1))) (aC ns::aB t'::(J++X)):=by
  show ag Ud Ik _ _ _=_;refine(aO ?_).trans h2;simp? [Ud,ew]
 rw[run_eq T.qP rfl];exact(congrArg (fin _) A).trans (by rw[iK];exact bg rfl)
end
def Ug:MS:=(ai (aK ah) (gN 2))
def Tj:MS:=(fZ (bf (ab (ao aL (eI 1) (ae "_law_draw" (a2 (aa 0) (eI 5)))) ah)) (gN 3) (ai (ao aL (aa 2) (ae "_law_piece" (a2 (aa 0) (aa 1)))) (gN 2)))
def SK:MS:=(fZ (bf (ab (ao ic (ae "_law_draw" (a2 (aa 0) (eI 5))) (eI 2)) ah)) (gN 3) (ag (ai (ae "_law_draw" (ab (aa 0) (ab (ao aL (eB bH (a1 (aa 2))) (eI 2)) ah))) (gN 4)) (cI (eM qU bM (aa 2) (ab (ae "_law_draw" (ab (aa 0) (ab (ao aL (eB bH (a1 (aa 2))) (eI 1)) ah))) (ab (av (ab (eS "leap") (ab (aa 4) (ab (ae "_law_sum" (a3 (aa 0) (aa 1) (eI 1))) ah)))) ah))))))
def SW:MS:=(ar (eB aY (a1 (aa 2))))
def OZ:MS:=SW
def Rc:MS:=ag SK OZ
def RX:MS:=ag Tj Rc
def Qx:MS:=(ai (ao aL (aa 2) (ae "_law_piece" (a2 (aa 0) (aa 1)))) (gN 2))
def QR:MS:=(ag (ai (ae "_law_draw" (ab (aa 0) (ab (ao aL (eB bH (a1 (aa 2))) (eI 2)) ah))) (gN 4)) (cI (eM qU bM (aa 2) (ab (ae "_law_draw" (ab (aa 0) (ab (ao aL (eB bH (a1 (aa 2))) (eI 1)) ah))) (ab (av (ab (eS "leap") (ab (aa 4) (ab (ae "_law_sum" (a3 (aa 0) (aa 1) (eI 1))) ah)))) ah)))))
theorem fO.up{L:List Str}{n m:Nat}{r:Rw}(h:fO L n r)(hm:n<=m):fO L m r:=by
 cases r with
 | leap k e=>exact⟨h.1,by have:=h.2.1;omega,h.2.2⟩
 | _=>exact h
def qZ(s0 s1 s2 s3 ps:List Str)(rs:List Rw):Prop:= ∀ r∈rs,fO ps rs.length r/\C6 s0 s1 s2 s3 r
section
variable{pg:Tb}(T:bD pg)
include T
theorem KW(j:Nat)(ns:List Int){nk:Nat}{s0 s1 s2 s3 ps:List Str}{J:PH}(K:pe J nk s0 s1 s2 s3 ps)(xs0:List PV): ∀(aj:List PV)(rs:List Rw)(X:PH)(i:Nat)(t:Tp)(u3:Option PV),
  X[i]?=fv (.lst (rs.map bC))->(∀ r∈rs,qS s0 s1 s2 s3 ps r)->rs.length+4*aj.length<=900-> ∃(rs':List Rw)(X':PH)(i':Nat)(t':Tp)(v3:Option PV),X'[i']?=fv (.lst (rs'.map bC))/\(∀ r∈rs',qS s0 s1 s2 s3 ps r)/\rs'.length<=rs.length+4*aj.length /\
   bh ⟨UB,xs0⟩ (bc (gN 3) Qx (run pg (j+8))) aj [fv (.ref 1),fv (.ref (nk+1+1)),fv (.ref (J.length+i+1+1)),u3,UB] (aC ns::aB t::(J++X)) =
    .ok (.nx [fv (.ref 1),fv (.ref (nk+1+1)),fv (.ref (J.length+i'+1+1)),v3,UB]) (aC ns::aB t'::(J++X')):=by
 intro aj
 induction aj with
 | nil=>intro rs X i t u3 h1 h2 _;exact⟨rs,X,i,t,u3,h1,h2,by simp,eK⟩
 | cons x aj ih =>
  intro rs X i t u3 h1 h2 hl
  rw[UU] at hl
  obtain⟨r2,X2,i2,t2,m2,e2⟩:=AL T (j:=j) (ns:=ns) t (J:=J++X) K.app
  have l2:=m2.le
  obtain⟨rs',X',i',t',v3,g1,g2,g3,g4⟩:=ih (rs++r2) (X++(X2++[.lst (rs.map bC++r2.map bC)])) (X.length+X2.length) t2 (fv x) (by rw[aQ,bu,Wa]) (λr m=>by
   rcases V6.mp m with m | m
   . exact h2 r m
   . exact m2.all r m) (by rw[U5];omega)
  refine⟨rs',X',i',t',v3,g1,g2,by rw[U5] at g3;rw[UU];omega,?_⟩
  have ad:aL (.ref (J.length+i+1+1)) (.ref ((J++X).length+i2+1+1)) (aC ns::aB t2::(J++X++X2))= .ok (.ref (J.length+(X.length+X2.length)+1+1)) (aC ns::aB t2::(J++(X++(X2++[.lst (rs.map bC++r2.map bC)])))):=by
   refine(rR (xs:=rs.map bC) (ys:=r2.map bC) ?_ ?_ (by rw[UE,UE];omega)).trans ?_
   . rw[UG,UG,Vm,aQ,aP (bz h1)];exact h1
   . rw[UG,UG,aQ];exact m2.at_
   . simp[Zt]
  have st:bc (gN 3) Qx (run pg (j+8)) x [fv (.ref 1),fv (.ref (nk+1+1)),fv (.ref (J.length+i+1+1)),u3,UB] (aC ns::aB t::(J++X))= .ok (.nx [fv (.ref 1),fv (.ref (nk+1+1)),fv (.ref (J.length+(X.length+X2.length)+1+1)),fv x,UB]) (aC ns::aB t2::(J++(X++(X2++[.lst (rs.map bC++r2.map bC)])))):=by
   simp only[U5,Vm] at ad e2;simp? [Qx,e2,ad]
  rw[dq,st,ck,bT,g4]
theorem Kx(j:Nat)(ns:List Int){nk:Nat}{s0 s1 s2 s3 ps:List Str}{J:PH}(K:pe J nk s0 s1 s2 s3 ps)(xs0:List PV): ∀(aj:List PV)(rs:List Rw)(X:PH)(i:Nat)(t:Tp)(u3 u4:Option PV),
  X[i]?=fv (.lst (rs.map bC))->qZ s0 s1 s2 s3 ps rs->rs.length+aj.length<=900-> ∃(rs':List Rw)(X':PH)(t':Tp)(v3 v4:Option PV),X'[i]?=fv (.lst (rs'.map bC))/\qZ s0 s1 s2 s3 ps rs'/\rs'.length=rs.length+aj.length /\
   bh ⟨UB,xs0⟩ (bc (gN 3) QR (run pg (j+8))) aj [fv (.ref 1),fv (.ref (nk+1+1)),fv (.ref (J.length+i+1+1)),u3,u4] (aC ns::aB t::(J++X)) =
    .ok (.nx [fv (.ref 1),fv (.ref (nk+1+1)),fv (.ref (J.length+i+1+1)),v3,v4]) (aC ns::aB t'::(J++X')):=by
 intro aj
 induction aj with
 | nil=>intro rs X i t u3 u4 h1 h2 _;exact⟨rs,X,t,u3,u4,h1,h2,rfl,eK⟩
 | cons x aj ih =>
  intro rs X i t u3 u4 h1 h2 hl
  rw[UU] at hl
  obtain⟨a,t1,a0,a1,ea⟩:=aR T (j+7) ns t ((rs.length:Int)+2) (by omega) (by omega)
  obtain⟨b,t2,b0,b1,eb⟩:=aR T (j+7) ns t1 ((rs.length:Int)+1) (by omega) (by omega)
  obtain⟨s,t3,hs,es⟩:=sum2 T (j+3) ns 1 (by decide) t2 (J:=J++X) K.app
  have es':run pg (j+8) "_law_sum" [.ref 1,.ref (nk+1+1),.int 1] (aC ns::aB t2::(J++X))= .ok (iM s) (aC ns::aB t3::(J++X)):=es
  let r2:List Rw:=rs.take b.toNat++ .leap a s::rs.drop b.toNat
  have l2:r2.length=rs.length+1:=by simp only[r2,U5,UU,VT,W9];omega
  have iX:=bz h1
  have v2:r2.map bC=(rs.map bC).take b.toNat++bC (.leap a s)::(rs.map bC).drop b.toNat:=by simp only[r2,Wa,UP,Ym,ab1]
  obtain⟨rs',X',t',v3,v4,g1,g2,g3,g4⟩:=ih r2 (X.set i (.lst (r2.map bC))) i t3 (fv x) (fv (.int a)) (wM iX) (λr m=>by
   rw[l2];have old:r∈rs->fO ps (rs.length+1) r/\C6 s0 s1 s2 s3 r:=λm=>⟨(h2 r m).1.up (by omega),(h2 r m).2⟩
   rcases V6.mp m with m | m
   . exact old (WT m)
   . rcases UW.mp m with rfl | m
     . exact⟨⟨a0,by omega,hs⟩,λk u h=>nomatch h⟩
     . exact old (aaA m)) (by omega)
  refine⟨rs',X',t',v3,v4,g1,g2,by rw[g3,l2,UU];omega,?_⟩
  have hz:(rs.map bC).length < 16777216:=by rw[UE];omega
  have ins:qU (.ref (J.length+i+1+1)) [.int b,bC (.leap a s)] (aC ns::aB t3::(J++X))= .ok .non (aC ns::aB t3::(J++X.set i (.lst (r2.map bC)))):=by
   rw[Qe (xs:=rs.map bC) (by rw[UG,UG,aQ];exact h1) b0 (by omega) hz,v2,YX,YX,nY]
  have ins':qU (.ref (J.length+i+1+1)) [.int b,.tup [.str "leap",.int a,iM s]] (aC ns::aB t3::(J++X))=_:=ins
  have st:bc (gN 3) QR (run pg (j+8)) x [fv (.ref 1),fv (.ref (nk+1+1)),fv (.ref (J.length+i+1+1)),u3,u4] (aC ns::aB t::(J++X))= .ok (.nx [fv (.ref 1),fv (.ref (nk+1+1)),fv (.ref (J.length+i+1+1)),fv x,fv (.int a)]) (aC ns::aB t3::(J++X.set i (.lst (r2.map bC)))):=by
   simp? [QR,h1,UE,ea,eb,es',ins']
  rw[dq,st,ck,bT,g4]
theorem Fp(j:Nat)(ns:List Int)(t:Tp){nk:Nat}{s0 s1 s2 s3 ps:List Str}{J:PH}(K:pe J nk s0 s1 s2 s3 ps) :
  ∃(rs:List Rw)(t':Tp),rs.length<=40/\qZ s0 s1 s2 s3 ps rs/\run pg (j+9) "_law_rows" [.ref 1,.ref (nk+1+1)] (aC ns::aB t::J)= .ok (fU rs) (aC ns::aB t'::J):=by
 obtain⟨a,t1,a0,a1,ea⟩:=aR T (j+7) ns t 5 (by decide) (by decide);have lr: ∀ n:Nat,(ak 0 n).length=n:=λn=>by unfold ak;simp
 obtain⟨rs,X,i,t2,v3,h1,h2,h3,h4⟩:=KW T j ns K (ak 0 (1+a).toNat) (ak 0 (1+a).toNat) [] [.lst []] 0 t1 UB rfl (λr m=>nomatch m) (by rw[lr];simp;omega);rw[lr,V8] at h3;obtain⟨b,t3,b0,b1,eb⟩:=aR T (j+7) ns t2 5 (by decide) (by decide);obtain⟨rs',X',t4,w3,w4,g1,g2,g3,g4⟩:=Kx T j ns K (ak 0 (b / 2).toNat) (ak 0 (b / 2).toNat) rs X i t3 v3 UB h1 (λr m=>⟨(h2 r m).1 _,(h2 r m).2⟩) (by rw[lr];omega);rw[lr] at g3;refine⟨rs',t4,by omega,g2,?_⟩;have A:lF (run pg (j+8)) [fv (.ref 1),fv (.ref (nk+1+1)),UB,UB,UB] (aC ns::aB t::J)= .ok (.rt (fU rs')) (aC ns::aB t4::(J++X')):=by
  show ag Ug RX _ _ _=_;refine(aO (e1:=[fv (.ref 1),fv (.ref (nk+1+1)),fv (.ref (J.length+0+1+1)),UB,UB]) (h1:=aC ns::aB t::(J++[.lst []])) ?_).trans ?_
  . simp? [Ug]
  refine(aO (e1:=[fv (.ref 1),fv (.ref (nk+1+1)),fv (.ref (J.length+i+1+1)),v3,UB]) (h1:=aC ns::aB t2::(J++X)) ?_).trans ?_
  . unfold Qx at h4;simp? [Tj,ea,h4]
  refine(aO (e1:=[fv (.ref 1),fv (.ref (nk+1+1)),fv (.ref (J.length+i+1+1)),w3,w4]) (h1:=aC ns::aB t4::(J++X')) ?_).trans ?_
  . unfold QR at g4;simp? [SK,eb,g4]
  . simp? [OZ,SW,g1];rfl
 rw[run_eq T.sZ rfl];exact(congrArg (fin _) A).trans (by rw[iK];exact ee (v:=fU rs') (kO rs'))
end
def SU:MS:=(ai (aK (ab (eS "a") (ab (eS "ab") (ab (eS "abc") (ab (eS "b") (ab (eS "ba") (ab (eS "taker") (ab (eS "boxa") (ab (eS "sendx") (ab (eS "abcdefgh") (ab (eS "handy") (ab (eS "c") (a3 (eS "lotb") (eS "z") (eS "freely")))))))))))))) (gN 2))
def SN:MS:=(ai (ao aL (aa 2) (aK (ab (eS "gets") (ab (eS "putx") (ab (eS "getter") (ab (eS "sends") (ab (eS "abcd") (ab (eS "y") (ab (eS "ya") (a3 (eS "lotus") (eS "doors") (eS "handle"))))))))))) (gN 2))
def S6:MS:=(ai (ae "_law_draw" (a2 (aa 0) (eI 24))) (gN 3))
def Tr:MS:=(ai (ao aG (aK (ab (eI 1) (a3 (eI 5) (eI 7) (eI 11)))) (ae "_law_draw" (a2 (aa 0) (eI 4)))) (gN 4))
def S4:MS:=(ar (jf 1 (bf (a1 (aa 1))) (gN 5) aS (ao aG (aa 2) (ao gz (ao aL (aa 3) (ao cb (aa 4) (aa 5))) (eI 24)))))
def P0:MS:=S4
def RH:MS:=ag Tr P0
def Rh:MS:=ag S6 RH
def Q3:MS:=ag SN Rh
noncomputable def Gw:List Str:=["a", "ab", "abc", "b", "ba", "taker", "boxa", "sendx", "abcdefgh", "handy", "c", "lotb", "z", "freely"]
noncomputable def He:List Str:=["gets", "putx", "getter", "sends", "abcd", "y", "ya", "lotus", "doors", "handle"]
def zu:List Str:=Gw++He
theorem MN: ∀ x∈zu,qY x=true∧VI x=true∧x.length<=8:=by decide +kernel
def L7(s d:Int)(k:Nat):Str:=zu.getD ((s+d*(0+(k:Int))) % 24).toNat ""
theorem CT(s d:Int)(k:Nat):cR (zu.map PV.str) ((s+d*(0+(k:Int))) % 24)=fv (.str (L7 s d k))/\L7 s d k∈zu:=by
 have h0:=Wn (s+d*(0+(k:Int))) (show(24:Int)≠0 by decide);have h1:=WK (s+d*(0+(k:Int))) (show(0:Int) < 24 by decide);have l:zu.length=24:=rfl;have hn:((s+d*(0+(k:Int))) % 24).toNat < zu.length:=by rw[l];omega
 have e:L7 s d k=zu[((s+d*(0+(k:Int))) % 24).toNat]:=by unfold L7;rw[VC,UQ hn];rfl
 rw[e];refine⟨P3.c9 (aaK h0).symm (by rw[U1,UQ hn];rfl),Ws hn⟩
section
variable{pg:Tb}(T:bD pg)
include T
theorem AB(j:Nat)(ns:List Int)(t:Tp)(J:PH)(m:Nat)(m9:m<=100): ∃(ss:List Str)(X:PH)(t':Tp),ss.length=m/\(∀ x∈ss,x∈zu)/\X[4]?=fv (.lst (ss.map PV.str))/\run pg (j+2) "_law_names" [.ref 1,.int m] (aC ns::aB t::J)= .ok (.ref (J.length+4+1+1)) (aC ns::aB t'::(J++X)):=by
 obtain⟨s,t1,s0,s1,es⟩:=aR T j ns t 24 (by decide) (by decide);obtain⟨q,t2,q0,q1,eq⟩:=aR T j ns t1 4 (by decide) (by decide);obtain⟨d,hd,ed⟩:=jq (xs:=[1,5,7,11]) q0 (by simpa using q1);have ed':cR [PV.int 1,.int 5,.int 7,.int 11] q=fv (.int d):=ed;have d9:0<=d/\d<=11:=by simp only[UW,Vc,or_false] at hd;omega
 let ss:List Str:=(Vq m).map (L7 s d)
 let Y:PH:=[.lst (Gw.map PV.str),.lst (He.map PV.str),.lst (zu.map PV.str),.lst [.int 1,.int 5,.int 7,.int 11]]
 have lc:P3.ia ⟨UB,ak 0 m⟩ (aX 1 (gN 5) aS (ao aG (aa 2) (ao gz (ao aL (aa 3) (ao cb (aa 4) (aa 5))) (eI 24))) (run pg (j+1)) [fv (.ref 1),fv (.int m),fv (.ref (J.length+(0+1+1)+1+1)),fv (.int s),fv (.int d)]) (ak 0 m) [] (aC ns::aB t2::(J++Y))= .ok (ss.map PV.str) (aC ns::aB t2::(J++Y)):=by
  refine(dC (α :=Nat) rfl (Vq m) [] (f:=λk=>fv (.str (L7 s d k))) (g:=λk:Nat=>PV.int (0+(k:Int))) (λk _=>?_) (by simp;omega)).trans ?_
  . have hx:=(CT s d k).1;have ml: ∀ h,cb (.int d) (.int (0+(k:Int))) h= .ok (.int (d*(0+(k:Int)))) h:=λh=>rM (by omega);have ix:aG (.ref (J.length+(0+1+1)+1+1)) (.int ((s+d*(0+(k:Int))) % 24)) (aC ns::aB t2::(J++Y))= .ok (.str (L7 s d k)) (aC ns::aB t2::(J++Y)):=by
     rw[Fe,UG,UG,aQ];show M3 _ _ (fv (.lst _))=_;rw[L1,hx];rfl
    simp? [ml,ix]
  . rw[VJ,Yc];simp only[ss,Wj];rfl
 refine⟨ss,Y++[.lst (ss.map PV.str)],t2,by simp[ss],λx mx=>?_,rfl,?_⟩
 . obtain⟨k,_,rfl⟩:=Vg.mp mx;exact(CT s d k).2
 have ad:aL (.ref (J.length+1+1)) (.ref (J.length+(0+1)+1+1)) (aC ns::aB t::(J++[.lst (Gw.map PV.str),.lst (He.map PV.str)]))= .ok (.ref (J.length+(0+1+1)+1+1)) (aC ns::aB t::(J++[.lst (Gw.map PV.str),.lst (He.map PV.str),.lst (zu.map PV.str)])):=by
  refine(rR (xs:=Gw.map PV.str) (ys:=He.map PV.str) ?_ ?_ (by decide)).trans ?_
  . rw[UG,UG];exact bu
  . rw[UG,UG,aQ];rfl
  . unfold zu;simp
 have A:ka (run pg (j+1)) [fv (.ref 1),fv (.int m),UB,UB,UB] (aC ns::aB t::J)= .ok (.rt (.ref (J.length+4+1+1))) (aC ns::aB t2::(J++(Y++[.lst (ss.map PV.str)]))):=by
  show ag SU Q3 _ _ _=_;refine(aO (e1:=[fv (.ref 1),fv (.int m),fv (.ref (J.length+1+1)),UB,UB]) (h1:=aC ns::aB t::(J++[.lst (Gw.map PV.str)])) ?_).trans ?_
  . simp? [SU,Gw]
  refine(aO (e1:=[fv (.ref 1),fv (.int m),fv (.ref (J.length+(0+1+1)+1+1)),UB,UB]) (h1:=aC ns::aB t::(J++[.lst (Gw.map PV.str),.lst (He.map PV.str),.lst (zu.map PV.str)])) ?_).trans ?_
  . have ad':=ad;unfold He at ad';simp only[UP,VU] at ad';simp? [SN,ad'];rfl
  refine(aO (e1:=[fv (.ref 1),fv (.int m),fv (.ref (J.length+(0+1+1)+1+1)),fv (.int s),UB]) (h1:=aC ns::aB t1::(J++[.lst (Gw.map PV.str),.lst (He.map PV.str),.lst (zu.map PV.str)])) ?_).trans ?_
  . simp? [S6,es]
  refine(aO (e1:=[fv (.ref 1),fv (.int m),fv (.ref (J.length+(0+1+1)+1+1)),fv (.int s),fv (.int d)]) (h1:=aC ns::aB t2::(J++Y)) ?_).trans ?_
  . simp? [Tr,eq,ed',Y]
  . have tn:YO (m:Int)=m:=VD m;simp only[Y] at lc ⊢;simp? [P0,S4,tn,lc]
 rw[run_eq T.qH rfl];exact(congrArg (fin _) A).trans (by rw[iK];exact bg rfl)
end
def TC:MS:=(ai (aK (ab (ao aG (aK (ab (eI 1) (ab (eI 1) (ab (eI 1) (a3 (eI 2) (eI 2) (eI 4)))))) (ae "_law_draw" (a2 (aa 0) (eI 6)))) ah)) (gN 1))
def T1:MS:=(fZ (bf (a1 (eI 3))) (gN 2) (cI (eM bw bM (aa 1) (ab (ao aG (aK (ab (eI 0) (ab (eI 1) (ab (eI 1) (a3 (eI 1) (eI 2) (eI 4)))))) (ae "_law_draw" (a2 (aa 0) (eI 6)))) ah))))
def TL:MS:=(cI (eM bw bM (aa 1) (ab (ao aG (aK (ab (eI 1) (ab (eI 2) (ab (eI 2) (a3 (eI 3) (eI 3) (eI 4)))))) (ae "_law_draw" (a2 (aa 0) (eI 6)))) ah)))
def TJ:MS:=(ai (ae "_law_names" (ab (aa 0) (ab (eB kn (a1 (aa 1))) ah))) (gN 3))
def Rf:MS:=(ai (aK ah) (gN 4))
def Qo:MS:=(fZ (bf (a1 (eI 5))) (gN 2) (cI (eM bw bM (aa 4) (ab (ph (aa 3) (bS (eB kn (ab (ph (aa 1) de (bS (aa 2))) ah))) (bS (eB kn (ab (ph (aa 1) de (bS (ao aL (aa 2) (eI 1)))) ah)))) ah))))
def Sr:MS:=(ai (xR (jh (eS "boxes") (eX 4 0) (jh (eS "locks") (eX 4 1) (jh (eS "lanes") (eX 4 2) (jh (eS "doors") (eX 4 3) EV))))) (gN 5))
def Sf:MS:=(pI mS (aa 5) (eS "pockets") (aK (ab (eS "p") (ab (eS "q") (ab (ao aG (aa 3) (ae "_law_draw" (ab (aa 0) (ab (eB bH (a1 (aa 3))) ah)))) ah)))))
def RE:MS:=(ai (eB aY (ab (jf 1 (my (eX 4 0)) (gN 8) aS (av (ab (aa 8) (ab (ae "_law_draw" (a2 (aa 0) (eI 3))) ah)))) ah)) (gN 6))
def RG:MS:=(ai (eB aY (ab (jf 1 (my (eX 4 4)) (gN 8) aS (av (ab (aa 8) (ab (ae "_law_rows" (a2 (aa 0) (aa 5))) ah)))) ah)) (gN 7))
def Im:MS:=(ar (av (ab (aa 6) (ab (eB aY (a1 (eX 4 1))) (ab (eB aY (a1 (eX 4 2))) (ab (eB aY (a1 (eX 4 3))) (a1 (aa 7))))))))
def P6:MS:=Im
def R1:MS:=ag RG P6
def Jt:MS:=ag RE R1
def QZ:MS:=(cI (eM bw bM (aa 1) (ab (ao aG (aK (ab (eI 0) (ab (eI 1) (ab (eI 1) (a3 (eI 1) (eI 2) (eI 4)))))) (ae "_law_draw" (a2 (aa 0) (eI 6)))) ah)))
def Nl:MS:=(cI (eM bw bM (aa 4) (ab (ph (aa 3) (bS (eB kn (ab (ph (aa 1) de (bS (aa 2))) ah))) (bS (eB kn (ab (ph (aa 1) de (bS (ao aL (aa 2) (eI 1)))) ah)))) ah)))
def sl(nm:List Str)(ms:List Int)(k:Nat):List Str:=(nm.take (ms.take (k+1)).sum.toNat).drop (ms.take k).sum.toNat
theorem rE: ∀{l:List Int},(∀ m∈l,0<=m)->0<=l.sum
 | [],_=>by simp
 | x::r,h=>by
  have:=h x UX;have:=rE (l:=r) λm k=>h m (UZ _ k);rw[XO];omega
section
variable{pg:Tb}(T:bD pg)
include T
theorem y8(j:Nat)(ns:List Int){J:PH}(xs0:List PV)(e3 e4 e5 e6 e7:Option PV): ∀(aj:List PV)(ms:List Int)(X:PH)(t:Tp)(u2:Option PV),X[0+1]?=fv (.lst (ms.map PV.int))->ms.length+aj.length<=900 ->
  ∃(ms':List Int)(X':PH)(t':Tp)(v2:Option PV),X'[0+1]?=fv (.lst ((ms++ms').map PV.int))/\ms'.length=aj.length/\(∀ m∈ms',0<=m/\m<=4) /\
   bh ⟨UB,xs0⟩ (bc (gN 2) QZ (run pg (j+1))) aj [fv (.ref 1),fv (.ref (J.length+(0+1)+1+1)),u2,e3,e4,e5,e6,e7] (aC ns::aB t::(J++X))= .ok (.nx [fv (.ref 1),fv (.ref (J.length+(0+1)+1+1)),v2,e3,e4,e5,e6,e7]) (aC ns::aB t'::(J++X')):=by
 intro aj
 induction aj with
 | nil=>intro ms X t u2 h1 _;exact⟨[],X,t,u2,by rw[Vp];exact h1,rfl,(λm h=>by cases h),eK⟩
 | cons x aj ih =>
  intro ms X t u2 h1 hl
  rw[UU] at hl
  obtain⟨v,t1,v0,v1,ev⟩:=aR T j ns t 6 (by decide) (by decide)
  obtain⟨m,hm,em⟩:=jq (xs:=[0,1,1,1,2,4]) v0 (by simpa using v1)
  have em':cR [PV.int 0,.int 1,.int 1,.int 1,.int 2,.int 4] v=fv (.int m):=em
  have m9:0<=m/\m<=4:=by simp only[UW,Vc,or_false] at hm;omega
  have iX:=bz h1
  let C:PH:=[.lst [.int 0,.int 1,.int 1,.int 1,.int 2,.int 4]]
  have oX:(X++C)[0+1]?=fv (.lst (ms.map PV.int)):=(aP iX).trans h1
  obtain⟨ms',X',t',v2,g1,g2,g3,g4⟩:=ih (ms++[m]) ((X++C).set (0+1) (.lst ((ms++[m]).map PV.int))) t1 (fv x) (wM (by rw[U5];omega)) (by rw[U5];simp;omega)
  refine⟨m::ms',X',t',v2,by rw[g1];simp,by rw[UU,UU,g2],λz mz=>?_,?_⟩
  . rcases UW.mp mz with rfl | mz
    . exact m9
    . exact g3 z mz
  have hz:(ms.map PV.int).length < 16777216:=by rw[UE];omega
  have st:bc (gN 2) QZ (run pg (j+1)) x [fv (.ref 1),fv (.ref (J.length+(0+1)+1+1)),u2,e3,e4,e5,e6,e7] (aC ns::aB t::(J++X))= .ok (.nx [fv (.ref 1),fv (.ref (J.length+(0+1)+1+1)),fv x,e3,e4,e5,e6,e7]) (aC ns::aB t1::(J++(X++C).set (0+1) (.lst ((ms++[m]).map PV.int)))):=by
   simp only[C] at oX ⊢;simp? [QZ,h1,oX,ev,em',uO hz,Wa]
  rw[dq,st,ck,bT,g4]
omit T in
theorem yA(c:CF)(fr tp:PO){J:PH}{am an:Nat}{ms:List Int}{nm:List Str}(hm:J[am]?=fv (.lst (ms.map PV.int)))(hn:J[an]?=fv (.lst (nm.map PV.str)))(nn: ∀ m∈ms,0<=m)(xs0:List PV)(e0 e5 e6 e7:Option PV) :
  ∀(n k:Nat)(refs:List PV)(X:PH)(u2:Option PV),refs.length=k->(∀(i:Nat)(r:PV),refs[i]?=fv r-> ∃ b:Nat,r= .ref (J.length+(b+1)+1+1)/\X[b]?=fv (.lst ((sl nm ms i).map PV.str)))->k+n<=900 ->
  ∃(refs':List PV)(X':PH)(v2:Option PV),refs'.length=k+n/\(∀(i:Nat)(r:PV),refs'[i]?=fv r-> ∃ b:Nat,r= .ref (J.length+(b+1)+1+1)/\X'[b]?=fv (.lst ((sl nm ms i).map PV.str))) /\
   bh ⟨UB,xs0⟩ (bc (gN 2) Nl c) ((aaw k n).map λi:Nat=>PV.int (0+(i:Int))) [e0,fv (.ref (am+1+1)),u2,fv (.ref (an+1+1)),fv (.ref (J.length+1+1)),e5,e6,e7] (fr::tp::(J++ .lst refs::X))= .ok (.nx [e0,fv (.ref (am+1+1)),v2,fv (.ref (an+1+1)),fv (.ref (J.length+1+1)),e5,e6,e7]) (fr::tp::(J++ .lst refs'::X')):=by
 intro n
 induction n with
 | zero=>intro k refs X u2 h1 h2 _;exact⟨refs,X,u2,h1,h2,eK⟩
 | succ n ih =>
  intro k refs X u2 h1 h2 hl
  let A:PO:= .lst ((ms.take k).map PV.int)
  let B:PO:= .lst ((ms.take (k+1)).map PV.int)
  let C:PO:= .lst ((sl nm ms k).map PV.str)
  obtain⟨refs',X',v2,g1,g2,g3⟩:=ih (k+1) (refs++[.ref (J.length+(X.length+(0+1+1)+1)+1+1)]) (X++[A,B,C]) (fv (.int k)) (by simp[h1]) (λi r e=>by
   rcases Wu i refs.length with z | z
   . rw[Vj z] at e;obtain⟨b,e1,e2⟩:=h2 i r e;exact⟨b,e1,(aP (bz e2)).trans e2⟩
   . have hi:=(UJ.mp e).1;simp only[U5,UU,V8] at hi;obtain rfl:i=refs.length:=by omega
     rw[Vd (UL _),Nat.sub_self] at e;cases e;refine⟨X.length+(0+1+1),rfl,?_⟩;rw[aQ,h1];rfl) (by omega)
  refine⟨refs',X',v2,by rw[g1];omega,g2,?_⟩
  have hz:refs.length < 16777216:=by omega
  have iz:(0:Int)+(k:Int)=(k:Int):=YJ _
  have old: ∀{n:Nat}{o:PO}(Y:PH),J[n]?=fv o->(J++Y)[n]?=fv o:=λY e=>(aP (bz e)).trans e
  have hm':=λY=>old Y hm
  have hn':=λY=>old Y hn
  have c1:eW (ms.map PV.int) UB (fv (k:Int))=(ms.take k).map PV.int:=by rw[P3.nc (by omega),Ym];rfl
  have c2:eW (ms.map PV.int) UB (fv ((k:Int)+1))=(ms.take (k+1)).map PV.int:=by rw[P3.nc (by omega),Ym];rfl
  have n1:0<=(ms.take k).sum:=rE λm h=>nn m (WT h)
  have n2:0<=(ms.take (k+1)).sum:=rE λm h=>nn m (WT h)
  have c3:eW (nm.map PV.str) (fv (ms.take k).sum) (fv (ms.take (k+1)).sum)=(sl nm ms k).map PV.str:=by rw[P3.F5 n1 n2];unfold sl;rw[ab1,Ym]
  have s1:kn [.ref (J.length+(X.length+1)+1+1)] (fr::tp::(J++ .lst refs::(X++[A])))= .ok (.int (ms.take k).sum) (fr::tp::(J++ .lst refs::(X++[A]))):=Ag (by rw[UG,UG,aQ,UG];exact bu)
  have s2:kn [.ref (J.length+(X.length+(0+1)+1)+1+1)] (fr::tp::(J++ .lst refs::(X++[A,B])))= .ok (.int (ms.take (k+1)).sum) (fr::tp::(J++ .lst refs::(X++[A,B]))):=Ag (by rw[UG,UG,aQ,UG,aQ];rfl)
  have st:bc (gN 2) Nl c (.int k) [e0,fv (.ref (am+1+1)),u2,fv (.ref (an+1+1)),fv (.ref (J.length+1+1)),e5,e6,e7] (fr::tp::(J++ .lst refs::X))= .ok (.nx [e0,fv (.ref (am+1+1)),fv (.int k),fv (.ref (an+1+1)),fv (.ref (J.length+1+1)),e5,e6,e7]) (fr::tp::(J++ .lst (refs++[.ref (J.length+(X.length+(0+1+1)+1)+1+1)])::(X++[A,B,C]))):=by
   simp only[A,B,C] at s1 s2 ⊢;simp? [Nl,hm',hn',c1,c2,s1,s2,c3,uO hz]
  rw[abz,UP,dq,iz,st,ck,bT,g3]
end
def Ab(x:Str):Prop:=qY x=true/\VI x=true/\x.length<=8
structure wH(J:PH)(as:Nat)(s0 s1 s2 s3 s4:List Str):Prop where
 at_: ∃ b0 b1 b2 b3 b4:Nat,J[as]?=fv (.lst [.ref (b0+1+1),.ref (b1+1+1),.ref (b2+1+1),.ref (b3+1+1),.ref (b4+1+1)])/\J[b0]?=fv (.lst (s0.map PV.str))/\J[b1]?=fv (.lst (s1.map PV.str))/\J[b2]?=fv (.lst (s2.map PV.str))/\J[b3]?=fv (.lst (s3.map PV.str))/\J[b4]?=fv (.lst (s4.map PV.str))
theorem wH.app{J g:PH}{as:Nat}{s0 s1 s2 s3 s4:List Str}(h:wH J as s0 s1 s2 s3 s4):wH (J++g) as s0 s1 s2 s3 s4:=by
 obtain⟨b0,b1,b2,b3,b4,e,e0,e1,e2,e3,e4⟩:=h.at_;exact⟨b0,b1,b2,b3,b4,(aP (bz e)).trans e,(aP (bz e0)).trans e0,(aP (bz e1)).trans e1,(aP (bz e2)).trans e2,(aP (bz e3)).trans e3,(aP (bz e4)).trans e4⟩
noncomputable def pF(b0 b1 b2 b3:Nat):List (Key × PV):=[(.inr "boxes",.ref (b0+1+1)),(.inr "locks",.ref (b1+1+1)),(.inr "lanes",.ref (b2+1+1)),(.inr "doors",.ref (b3+1+1))]
theorem yL(b0 b1 b2 b3:Nat):cH [] (pF b0 b1 b2 b3)=pF b0 b1 b2 b3:=by
 rw[ou]
 . rfl
 . show([VY (UI "boxes"),VY (UI "locks"),VY (UI "lanes"),VY (UI "doors")]:List Key).Nodup
   decide +kernel
theorem C9(b0 b1 b2 b3 b4:Nat):mT (pF b0 b1 b2 b3) (.inr "pockets") (.ref (b4+1+1))=uL b0 b1 b2 b3 b4:=by
 rw[yd]
 . rfl
 . show ¬ (VY (UI "pockets"):Key)∈([VY (UI "boxes"),VY (UI "locks"),VY (UI "lanes"),VY (UI "doors")]:List Key);simp only[UW,Vc,or_false,key_ne,String.reduceEq,or_self,not_false_eq_true]
theorem ql{nm:List Str}(h: ∀ x∈nm,Ab x)(ms:List Int)(k:Nat): ∀ x∈sl nm ms k,Ab x:=λx m=>h x (WT (aaA m))
theorem rZ{ss:List Str}(h: ∀ x∈ss,Ab x)(l:ss.length<=20):E7 ss:=⟨l,λx m=>⟨(h x m).1,(h x m).2.1⟩⟩
section
variable{pg:Tb}(T:bD pg)
include T
theorem Je(j:Nat)(ns:List Int)(t:Tp){J:PH}{am an:Nat}{ms:List Int}{nm:List Str}(hm:J[am]?=fv (.lst (ms.map PV.int)))(hn:J[an]?=fv (.lst (nm.map PV.str)))(nn: ∀ m∈ms,0<=m)(n0:0 < nm.length)(n9:nm.length<=20)(ok: ∀ x∈nm,Ab x)(s00:0 < (sl nm ms 0).length)(u2:Option PV)(rest:MS) :
  ∃(Y:PH)(as nk:Nat)(ps:List Str)(t':Tp)(v2:Option PV),pe (J++Y) nk (sl nm ms 0) (sl nm ms 1) (sl nm ms 2) (sl nm ms 3) ps/\wH (J++Y) as (sl nm ms 0) (sl nm ms 1) (sl nm ms 2) (sl nm ms 3) (sl nm ms 4) /\
   ag Rf (ag Qo (ag Sr (ag Sf rest))) (run pg (j+1)) [fv (.ref 1),fv (.ref (am+1+1)),u2,fv (.ref (an+1+1)),UB,UB,UB,UB] (aC ns::aB t::J)=rest (run pg (j+1)) [fv (.ref 1),fv (.ref (am+1+1)),v2,fv (.ref (an+1+1)),fv (.ref (as+1+1)),fv (.ref (nk+1+1)),UB,UB] (aC ns::aB t'::(J++Y)):=by
 obtain⟨refs,X,v2,l5,hr,lp⟩:=yA (run pg (j+1)) (aC ns) (aB t) hm hn nn (ak 0 5) (fv (.ref 1)) UB UB UB 5 0 [] [] u2 rfl (λi r e=>by simp at e) (by decide);obtain⟨r0,r1,r2,r3,r4,rfl⟩: ∃ r0 r1 r2 r3 r4,refs=[r0,r1,r2,r3,r4]:=by
  match refs,l5 with
  | [a,b,c,d,e],_=>exact⟨a,b,c,d,e,rfl⟩
 obtain⟨c0,rfl,x0⟩:=hr 0 r0 rfl;obtain⟨c1,rfl,x1⟩:=hr 1 r1 rfl;obtain⟨c2,rfl,x2⟩:=hr 2 r2 rfl;obtain⟨c3,rfl,x3⟩:=hr 3 r3 rfl;obtain⟨c4,rfl,x4⟩:=hr 4 r4 rfl
 let R:PO:= .lst [.ref (J.length+(c0+1)+1+1),.ref (J.length+(c1+1)+1+1),.ref (J.length+(c2+1)+1+1),.ref (J.length+(c3+1)+1+1),.ref (J.length+(c4+1)+1+1)]
 let J3:PH:=J++R::X
 have F:wH J3 J.length (sl nm ms 0) (sl nm ms 1) (sl nm ms 2) (sl nm ms 3) (sl nm ms 4):=by
  refine⟨J.length+(c0+1),J.length+(c1+1),J.length+(c2+1),J.length+(c3+1),J.length+(c4+1),bu,?_,?_,?_,?_,?_⟩
  . show(J++R::X)[_]?=_;rw[aQ,UG];exact x0
  . show(J++R::X)[_]?=_;rw[aQ,UG];exact x1
  . show(J++R::X)[_]?=_;rw[aQ,UG];exact x2
  . show(J++R::X)[_]?=_;rw[aQ,UG];exact x3
  . show(J++R::X)[_]?=_;rw[aQ,UG];exact x4
 have hn3:J3[an]?=fv (.lst (nm.map PV.str)):=(aP (bz hn)).trans hn;have eJ3:J3=J++R::X:=rfl;have lp':Qo (run pg (j+1)) [fv (.ref 1),fv (.ref (am+1+1)),u2,fv (.ref (an+1+1)),fv (.ref (J.length+1+1)),UB,UB,UB] (aC ns::aB t::(J++[.lst []]))= .ok (.nx [fv (.ref 1),fv (.ref (am+1+1)),v2,fv (.ref (an+1+1)),fv (.ref (J.length+1+1)),UB,UB,UB]) (aC ns::aB t::J3):=by
  have r5:ak 0 (5:Int).toNat=ak 0 5:=rfl;have lp2:bh ⟨UB,ak 0 5⟩ (bc (gN 2) Nl (run pg (j+1))) (ak 0 5) [fv (.ref 1),fv (.ref (am+1+1)),u2,fv (.ref (an+1+1)),fv (.ref (J.length+1+1)),UB,UB,UB] (aC ns::aB t::(J++[.lst []]))= .ok (.nx [fv (.ref 1),fv (.ref (am+1+1)),v2,fv (.ref (an+1+1)),fv (.ref (J.length+1+1)),UB,UB,UB]) (aC ns::aB t::J3):=lp
  clear_value J3
  unfold Nl at lp2;simp? [Qo,↓qN,↓vR,rT,ck,mq,r5];exact lp2
 clear_value J3
 obtain ⟨b0,b1,b2,b3,b4,e,e0,e1,e2,e3,e4⟩:=F.at_;obtain ⟨v,t1,v0,v1,ev⟩:=aR T j ns t nm.length (by omega) (by omega);obtain ⟨x,hx,ex⟩:=hU v0 v1
 let Z:PH:=[.dct (uL b0 b1 b2 b3 (J3.length+(0+1))),.lst ((["p", "q",x]:List Str).map PV.str)]
 have sl20: ∀ k,(sl nm ms k).length<=20:=λk=>by unfold sl;rw [W9,VT];omega
 have K:pe (J3++Z) J3.length (sl nm ms 0) (sl nm ms 1) (sl nm ms 2) (sl nm ms 3) ["p", "q",x]:=by
  refine ⟨⟨b0,b1,b2,b3,J3.length+(0+1),bu,(aP (bz e0)).trans e0,(aP (bz e1)).trans e1,(aP (bz e2)).trans e2,(aP (bz e3)).trans e3,by rw [aQ];rfl⟩,⟨rZ (ql ok ms 0) (sl20 0),rZ (ql ok ms 1) (sl20 1),rZ (ql ok ms 2) (sl20 2),rZ (ql ok ms 3) (sl20 3)⟩,s00,by simp,by simp,λz m=>?_⟩;simp only [UW,Vc,or_false] at m;rcases m with rfl | rfl | rfl
  . decide +kernel
  . decide +kernel
  . exact (ok _ hx).1
 refine ⟨R::(X++Z),J.length,J3.length,["p", "q",x],t1,v2,?_,?_,?_⟩
 . rw [show J++R::(X++Z)=J3++Z by rw [eJ3];simp];exact K
 . rw [show J++R::(X++Z)=J3++Z by rw [eJ3];simp];exact F.app
 rw [show J++R::(X++Z)=J3++Z by rw [eJ3];simp];refine(aO (e1:=[fv (.ref 1),fv (.ref (am+1+1)),u2,fv (.ref (an+1+1)),fv (.ref (J.length+1+1)),UB,UB,UB]) (h1:=aC ns::aB t::(J++[.lst []])) ?_).trans ?_
 . simp? [Rf]
 refine(aO lp').trans ?_;have old: ∀{n:Nat}{o:PO}(Y:PH),J3[n]?=fv o->(J3++Y)[n]?=fv o:=λY e=>(aP (bz e)).trans e;refine(aO (e1:=[fv (.ref 1),fv (.ref (am+1+1)),v2,fv (.ref (an+1+1)),fv (.ref (J.length+1+1)),fv (.ref (J3.length+1+1)),UB,UB]) (h1:=aC ns::aB t::(J3++[.dct (pF b0 b1 b2 b3)])) ?_).trans ?_
 . have oe:=old [.dct []] e;have dk:Qs (J3.length+1+1) [((.inr "boxes" :Key),PV.ref (b0+1+1)),(.inr "locks",.ref (b1+1+1)),(.inr "lanes",.ref (b2+1+1)),(.inr "doors",.ref (b3+1+1))] (aC ns::aB t::(J3++[.dct []]))= .ok (.ref (J3.length+1+1)) (aC ns::aB t::(J3++[.dct (pF b0 b1 b2 b3)])):=by
    have:=FW (h:=aC ns::aB t::J3) (kvs:=pF b0 b1 b2 b3) (by simp[pF]);rw[yL] at this;exact this
   simp? [Sr,Ey,Mm,Dx,Ke,MR,Mq,oe,Af,pN,qW,rB,dk]
 refine(aO (e1:=[fv (.ref 1),fv (.ref (am+1+1)),v2,fv (.ref (an+1+1)),fv (.ref (J.length+1+1)),fv (.ref (J3.length+1+1)),UB,UB]) (h1:=aC ns::aB t1::(J3++Z)) ?_)
 . have on:=old [.dct (pF b0 b1 b2 b3)] hn3;have hk:(pF b0 b1 b2 b3).length < 16777216:=by simp[pF]
   simp? [Sf,on,UE,ev,ex,Pf hk,C9,Z]
end
theorem RP{a b c d e:PV}{r:List PV}:cR (a::b::c::d::e::r) 4=fv e:=P3.c9 rfl rfl
structure zX(P:Pg):Prop where
 hs: ∀ h∈P.hs,Ab h.1
 bs: ∀ b∈P.bs,Ab b.1
 ne:1<=P.bs.length
theorem p4: ∀ ss:List Str,PV.aU (ss.map PV.str)=true
 | []=>rfl
 | _::r=>by rw[UP,PV.aU,p4 r];rfl
theorem n8: ∀ hs:List (Str × List Rw),PV.aU (hs.map df)=true
 | []=>rfl
 | h::r=>by rw[UP,PV.aU,yi,n8 r];rfl
theorem Pg.flat(P:Pg):P.v.flat=true:=by simp only[Pg.v,PV.flat,PV.aU,ir,p4,n8,XJ]
section
variable{pg:Tb}(T:bD pg)
include T
theorem ED(j:Nat)(ns:List Int)(t:Tp){J:PH}{nk as:Nat}{s0 s1 s2 s3 s4 ps:List Str}(K:pe J nk s0 s1 s2 s3 ps)(F:wH J as s0 s1 s2 s3 s4)(n0: ∀ x∈s0,Ab x)(n4: ∀ x∈s4,Ab x)(m1:1<=s4.length)(m4:s4.length<=4)(e1 e2 e3:Option PV) :
  ∃(P:Pg)(t':Tp)(X:PH),P.Ok/\zX P/\Jt (run pg (j+9)) [fv (.ref 1),e1,e2,e3,fv (.ref (as+1+1)),fv (.ref (nk+1+1)),UB,UB] (aC ns::aB t::J)= .ok (.rt P.v) (aC ns::aB t'::(J++X)):=by
 obtain⟨b0,b1,b2,b3,b4,a,y0,y1,y2,y3,y4⟩:=F.at_;have l0:=K.ok.1.1;obtain⟨bs,t1,k1,q1,h1⟩:=Ou (fr:=aC ns) (J:=J) (it:=⟨fv (b0+1+1),s0.map PV.str⟩) (λt=>iV (by rw[UG,UG];exact y0)) (g:=PV.str) (f:=fg) (key:=λz:Str × Int=>z.1) (Q:=λz=>0<=z.2/\z.2<=999)
  (st:=aX 1 (gN 8) aS (av (ab (aa 8) (ab (ae "_law_draw" (a2 (aa 0) (eI 3))) ah))) (run pg (j+9)) [fv (.ref 1),e1,e2,e3,fv (.ref (as+1+1)),fv (.ref (nk+1+1)),UB,UB]) s0 [] t (λx _ t=>by
   obtain⟨v,t',v0,v1,ev⟩:=aR T (j+8) ns t 3 (by decide) (by decide);refine⟨(x,v),t',rfl,⟨v0,by show v<=999;omega⟩,?_⟩;simp? [ev,fg]) (by simp;omega)
 rw[VJ] at h1
 let J1:PH:=J++[.lst (bs.map fg)]
 have K1:pe J1 nk s0 s1 s2 s3 ps:=K.app;have F1:wH J1 as s0 s1 s2 s3 s4:=F.app;have c4:J1[b4]?=fv (.lst (s4.map PV.str)):=(aP (bz y4)).trans y4;obtain⟨hs,t2,k2,q2,h2⟩:=Ou (fr:=aC ns) (J:=J1) (it:=⟨fv (b4+1+1),s4.map PV.str⟩) (λt=>iV (by rw[UG,UG];exact c4)) (g:=PV.str) (f:=df) (key:=λz:Str × List Rw=>z.1) (Q:=λz=>z.2.length<=40/\qZ s0 s1 s2 s3 ps z.2)
  (st:=aX 1 (gN 8) aS (av (ab (aa 8) (ab (ae "_law_rows" (a2 (aa 0) (aa 5))) ah))) (run pg (j+9)) [fv (.ref 1),e1,e2,e3,fv (.ref (as+1+1)),fv (.ref (nk+1+1)),fv (.tup (bs.map fg)),UB]) s4 [] t1 (λx _ t=>by
   obtain⟨rs,t',r1,r2,er⟩:=Fp T j ns t K1;refine⟨(x,rs),t',rfl,⟨r1,r2⟩,?_⟩;simp? [er,df]) (by simp;omega)
 rw[VJ] at h2;have hl:hs.length=s4.length:=by have:=congrArg Yo k2;rw[UE] at this;exact this
 have bl:bs.length=s0.length:=by have:=congrArg Yo k1;rw[UE] at this;exact this
 have b_in: ∀ z∈bs,z.1∈s0:=λz m=>by rw[<- k1];exact Vg.mpr ⟨z,m,rfl⟩
 have h_in: ∀ z∈hs,z.1∈s4:=λz m=>by rw[<- k2];exact Vg.mpr ⟨z,m,rfl⟩
 refine⟨⟨bs,s1,s2,s3,hs⟩,t2,[.lst (bs.map fg),.lst (hs.map df)],⟨⟨by show bs.length<=20;omega,λz m=>⟨(n0 _ (b_in z m)).1,q1 z m⟩⟩,⟨K.ok.2.1,K.ok.2.2.1,K.ok.2.2.2⟩,by show 1<=hs.length/\hs.length<=4;omega,λh m=>?_⟩,⟨λh m=>n4 _ (h_in h m),λb m=>n0 _ (b_in b m),by have:=K.ne;show 1<=bs.length;omega⟩,?_⟩
 . obtain⟨r1,r2⟩:=q2 h m;refine⟨r1,ps,K.pk.2.1,K.pk.2.2,λr mr=>?_⟩;show fO ps h.2.length r/\C6 (bs.map λz=>z.1) s1 s2 s3 r;rw[k1];exact r2 r mr
 . have old: ∀{n:Nat}{o:PO}(Y:PH),J[n]?=fv o->(J++Y)[n]?=fv o:=λY e=>(aP (bz e)).trans e;have oa:=λY=>old Y a;have o1:=λY=>old Y y1;have o2:=λY=>old Y y2;have o3:=λY=>old Y y3;have o4:=λY=>old Y y4;show ag RE (ag RG Im) _ _ _=_;refine(aO (e1:=[fv (.ref 1),e1,e2,e3,fv (.ref (as+1+1)),fv (.ref (nk+1+1)),fv (.tup (bs.map fg)),UB]) (h1:=aC ns::aB t1::J1) ?_).trans ?_
   . simp? [RE,a,y0,Af,h1,J1]
   refine(aO (e1:=[fv (.ref 1),e1,e2,e3,fv (.ref (as+1+1)),fv (.ref (nk+1+1)),fv (.tup (bs.map fg)),fv (.tup (hs.map df))]) (h1:=aC ns::aB t2::(J++[.lst (bs.map fg),.lst (hs.map df)])) ?_).trans ?_
   . simp only[J1] at h2 ⊢;simp? [RG,oa,o4,RP,h2]
   . simp? [Im,oa,o1,o2,o3,pN,qW,rB,Pg.v]
theorem wm(j:Nat)(ns:List Int)(t:Tp)(J:PH): ∃(P:Pg)(t':Tp),P.Ok/\zX P/\run pg (j+10) "_law_program" [.ref 1] (aC ns::aB t::J)= .ok P.v (aC ns::aB t'::J):=by
 obtain⟨v,t1,v0,v1,ev⟩:=aR T (j+8) ns t 6 (by decide) (by decide);obtain⟨m0,hm0,em0⟩:=jq (xs:=[1,1,1,2,2,4]) v0 (by simpa using v1);have em0':cR [PV.int 1,.int 1,.int 1,.int 2,.int 2,.int 4] v=fv (.int m0):=em0;have r0:1<=m0/\m0<=4:=by simp only[UW,Vc,or_false] at hm0;omega
 obtain⟨ms',X1,t2,w2,x1,l3,r3,lp⟩:=y8 T (j+8) ns (J:=J) (ak 0 3) UB UB UB UB UB (ak 0 3) [m0] [.lst [.int 1,.int 1,.int 1,.int 2,.int 2,.int 4],.lst [.int m0]] t1 UB rfl (by show 1+3<=900;decide);obtain⟨m1,m2,m3,rfl⟩: ∃ m1 m2 m3,ms'=[m1,m2,m3]:=by
  match ms',l3 with
  | [a,b,c],_=>exact⟨a,b,c,rfl⟩
 have r1:=r3 m1 (.head _);have r2:=r3 m2 (.tail _ (.head _));have r3:=r3 m3 (.tail _ (.tail _ (.head _)));obtain⟨u,t3,u0,u1,eu⟩:=aR T (j+8) ns t2 6 (by decide) (by decide);obtain⟨m4,hm4,em4⟩:=jq (xs:=[1,2,2,3,3,4]) u0 (by simpa using u1);have em4':cR [PV.int 1,.int 2,.int 2,.int 3,.int 3,.int 4] u=fv (.int m4):=em4;have r4:1<=m4/\m4<=4:=by simp only[UW,Vc,or_false] at hm4;omega
 let ms:List Int:=[m0,m1,m2,m3,m4]
 let C:PH:=[.lst [.int 1,.int 2,.int 2,.int 3,.int 3,.int 4]]
 let X2:PH:=(X1++C).set (0+1) (.lst (ms.map PV.int))
 have iX:=bz x1;have x2:X2[0+1]?=fv (.lst (ms.map PV.int)):=wM (by rw[U5];omega);obtain⟨n,en⟩: ∃ n:Nat,ms.sum=(n:Int):=We (rE λm h=>by
  simp only[ms,UW,Vc,or_false] at h;omega)
 have es:m0+m1+m2+m3+m4=(n:Int):=by rw[<- en];simp only[ms,XO,Z0];omega
 obtain⟨nm,X3,t4,ln,hn,x4,enm⟩:=AB T (j+7) ns t3 (J++X2) n (by omega)
 let J2:PH:=J++X2++X3
 have am:J2[J.length+(0+1)]?=fv (.lst (ms.map PV.int)):=by
  show(J++X2++X3)[_]?=_;rw[Vm,aQ,aP (bz x2)];exact x2
 have an:J2[(J++X2).length+4]?=fv (.lst (nm.map PV.str)):=by
  show(J++X2++X3)[_]?=_;rw[aQ];exact x4
 have nok: ∀ x∈nm,Ab x:=λx m=>MN x (hn x m);have sl_len: ∀ k,(sl nm ms k).length=min (ms.take (k+1)).sum.toNat nm.length - (ms.take k).sum.toNat:=λk=>by unfold sl;rw[W9,VT]
 have s0l:0 < (sl nm ms 0).length:=by
  rw[sl_len,ln];simp only[ms,aaL,abZ,XO,Z0];omega
 have s4l:(sl nm ms 4).length=m4.toNat:=by
  rw[sl_len,ln];simp only[ms,aaL,abZ,XO,Z0];omega
 obtain⟨Y,as,nk,ps,t5,v2,K,F,mid⟩:=Je T (j+8) ns t4 (J:=J2) am an (λm h=>by
  simp only[ms,UW,Vc,or_false] at h;omega) (by omega) (by omega) nok s0l w2 Jt
 obtain⟨P,t6,Z,ok,pn,tl⟩:=ED T j ns t5 K F (ql nok ms 0) (ql nok ms 4) (by omega) (by omega) (fv (.ref (J.length+(0+1)+1+1))) v2 (fv (.ref ((J++X2).length+4+1+1)));refine⟨P,t6,ok,pn,?_⟩;have A:hJ (run pg (j+9)) [fv (.ref 1),UB,UB,UB,UB,UB,UB,UB] (aC ns::aB t::J)= .ok (.rt P.v) (aC ns::aB t6::(J2++Y++Z)):=by
  show ag TC (ag T1 (ag TL (ag TJ (ag Rf (ag Qo (ag Sr (ag Sf Jt))))))) _ _ _=_;refine(aO (e1:=[fv (.ref 1),fv (.ref (J.length+(0+1)+1+1)),UB,UB,UB,UB,UB,UB]) (h1:=aC ns::aB t1::(J++[.lst [.int 1,.int 1,.int 1,.int 2,.int 2,.int 4],.lst [.int m0]])) ?_).trans ?_
  . simp? [TC,ev,em0']
  refine(aO (e1:=[fv (.ref 1),fv (.ref (J.length+(0+1)+1+1)),w2,UB,UB,UB,UB,UB]) (h1:=aC ns::aB t2::(J++X1)) ?_).trans ?_
  . have r3:ak 0 (3:Int).toNat=ak 0 3:=rfl;unfold QZ at lp;simp? [T1,↓qN,↓vR,rT,ck,mq,r3];exact lp
  refine(aO (e1:=[fv (.ref 1),fv (.ref (J.length+(0+1)+1+1)),w2,UB,UB,UB,UB,UB]) (h1:=aC ns::aB t3::(J++X2)) ?_).trans ?_
  . have o1:(X1++C)[0+1]?=fv (.lst (([m0]++[m1,m2,m3]).map PV.int)):=(aP iX).trans x1;have hz:[PV.int m0,.int m1,.int m2,.int m3].length < 16777216:=by simp
    simp only[C] at o1;simp? [TL,x1,o1,eu,em4',uO hz];rfl
  refine(aO (e1:=[fv (.ref 1),fv (.ref (J.length+(0+1)+1+1)),w2,fv (.ref ((J++X2).length+4+1+1)),UB,UB,UB,UB]) (h1:=aC ns::aB t4::J2) ?_).trans ?_
  . have su:kn [.ref (J.length+(0+1)+1+1)] (aC ns::aB t3::(J++X2))= .ok (.int n) (aC ns::aB t3::(J++X2)):=by
     rw[<- en];exact Ag (by rw[UG,UG,aQ];exact x2)
    clear_value X2
    simp only[J2];simp only[U5,Vm] at enm;simp? [TJ,su,enm]
  . exact mid.trans tl
 rw[run_eq T.m7 rfl];refine(congrArg (fin _) A).trans ?_;rw[iK];show P3.settle _ _ (aC ns::aB t6::(J++X2++X3++Y++Z))=_;rw[Vm,Vm,Vm];exact ee P.flat
end
theorem G8(a:Str)(h:PH):j8 (.str a) (.tup [.str "clock",.str "hear"]) h= .ok (.bl (decide (a∈(["clock", "hear"]:List Str)))) h:=Jp (ss:=["clock", "hear"])
theorem Bw{r:Rw}(h:(∃ i t,r.th=fv (i,t))∨cE r=true):(∃ x n,r= .lot x n)∨(¬ r.w= "lot" ∧r.w∈(["clock", "hear"]:List Str)∧cE r=true∧ ∀ x n,r≠ .lot x n)∨(¬ r.w= "lot" /\ ¬ r.w∈(["clock", "hear"]:List Str)∧cE r=false):=by
 cases r with
 | lot x n=>exact .inl ⟨x,n,rfl⟩
 | clock x=>exact .inr (.inl ⟨by simp only [Rw.w];decide +kernel,by simp only [Rw.w];decide +kernel,rfl,λ_ _ h=>nomatch h⟩)
 | hear x d=>exact .inr (.inl ⟨by simp only[Rw.w];decide +kernel,by simp only[Rw.w];decide +kernel,rfl,λ_ _ h=>nomatch h⟩)
 | _=>exact .inr (.inr ⟨by simp only[Rw.w];decide +kernel,by simp only[Rw.w];decide +kernel,rfl⟩)
section
variable{pg:Tb}(T:bD pg)
include T
theorem Dq(k:Nat)(ns:List Int)(t:Tp)(J:PH){P:Pg}(ok:P.Ok){N:Nat}{S:Wd}(W:gb P N S){j:Nat}{x:Str × List Rw}{s:fY}{r:Rw}(ex:P.hs[j]?=fv x)(es:S.dU[j]?=fv s)(er:x.2[s.row]?=fv r) :
  ∃(g:PV)(t':Tp),fj r g/\g.flat=true/\run pg (k+11) "_law_gift" [.ref 1,P.v,aH S,.int j] (aC ns::aB t::J)= .ok g (aC ns::aB t'::J):=by
 have so:=W.se j x s ex es;obtain⟨l1,l2,l3⟩:=gI (ok.hd x (UR ex));have hr:=l3 r (UR er);have to:=iq T k (aC ns::aB t::J) (by omega) (P.hand ex) l3 so.so;unfold lx at to;rw[er] at to;have i1: ∀ g,aG (aH S) (.int 1) g= .ok (.tup (S.dU.map aw)) g:=λg=>vn;have i2: ∀ g,aG (.tup (S.dU.map aw)) (.int j) g= .ok (aw s) g:=λg=>k4 (gK es);have to':run pg (k+10) "touch_of" [P.v,.int j,aw s] (aC ns::aB t::J)= .ok (bj s r) (aC ns::aB t::J):=to;rcases Bw (jW so.re er).2 with⟨y,n,rfl⟩ | ⟨c1,c2,c3,c4⟩ | ⟨c1,c2,c3⟩
 . obtain⟨_,n0,n9⟩:=hr;obtain⟨v,t1,v0,v1,ev⟩:=aR T (k+9) ns t n (by omega) (by omega);refine⟨.int v,t1,⟨λ_=>⟨v,rfl,v0,by omega,λ_ _ h=>by cases h;exact v1⟩,(λh=>nomatch h)⟩,rfl,?_⟩;rw[run_eq T.iJ rfl];simp? [cL,fL,i1,i2,to',bj,ev];exact f9
 . obtain⟨a,t1,a0,a1,ea⟩:=aR T (k+9) ns t 3 (by decide) (by decide);obtain⟨b,t2,b0,b1,eb⟩:=aR T (k+9) ns t1 1000 (by decide) (by decide);obtain⟨c,t3,c0,c1',ec⟩:=aR T (k+9) ns t2 3 (by decide) (by decide);obtain⟨z,hz,ez⟩:=CC (x:= .int a) (y:= .int b) (p:=decide (c=0));obtain⟨n,n0,n9,rfl⟩: ∃ n:Int,0<=n/\n<=999/\z= .int n:=by
    rcases hz with rfl | rfl
    . exact⟨a,a0,by omega,rfl⟩
    . exact⟨b,b0,by omega,rfl⟩
   obtain⟨u,v,et⟩:=oB s r;rw[et] at to';refine⟨.int n,t3,⟨λ_=>⟨n,rfl,n0,n9,λx m h=>absurd h (c4 x m)⟩,λh=>(by rw[c3] at h;cases h)⟩,rfl,?_⟩;rw[run_eq T.iJ rfl];simp? [cL,fL,i1,i2,to',c1,G8,c2,ea,eb,ec,ez];exact ee rfl
 . obtain⟨u,v,et⟩:=oB s r;rw[et] at to';refine⟨.non,t,⟨λh=>(by rw[c3] at h;cases h),λ_=>rfl⟩,rfl,?_⟩;rw[run_eq T.iJ rfl];simp? [cL,fL,i1,i2,to',c1,G8,c2]
end
def M0:MS:=(ag (ai (ae "can_go" (a2 (aa 1) (aa 2))) (gN 6))
  (bB (aA (ao g7 (aa 6) (aK ah))) (ag (ai (ao aG (aa 6) (ae "_law_draw" (ab (aa 0) (ab (eB bH (a1 (aa 6))) ah)))) (gN 7))
  (ag (ai (ae "_law_gift" (ab (aa 0) (a3 (aa 1) (aa 2) (aa 7)))) (gN 8))
  (ag (cI (eM bw bM (aa 4) (ab (av (a2 (aa 7) (aa 8))) ah)))
  (ai (ao aG (ae "gone" (ab (aa 1) (a3 (aa 2) (aa 7) (aa 8)))) (eI 0)) (gN 2))))) bF))
theorem R9{h:PH}{n m:Nat}{l:List Nat}(e1:h[n]?=fv (.lst (l.map jC)))(e2:h[m]?=fv (.lst [])):g7 (.ref n) (.ref m) h= .ok (.bl (!decide (l=[]))) h:=by
 obtain⟨ds,d1,d2⟩:=Na l;rw[EW e1 e2 d1 d2];cases l<;>rfl
section
variable{pg:Tb}(T:bD pg)
include T
theorem Aj(k:Nat)(ns:List Int){P:Pg}(ok:P.Ok){N:Nat}{S0:Wd}(W0:gb P N S0)(J:PH)(xs0:List PV)(e3:Option PV): ∀(aj:List PV)(a:List (Nat × PV × PV))(S:Wd)(X:PH)(t:Tp)(u5 u6 u7 u8:Option PV),Wk P S0 a S->N+a.length+aj.length<=60 ->
  ∃(a':List (Nat × PV × PV))(S':Wd)(X':PH)(t':Tp)(v5 v6 v7 v8:Option PV),Wk P S0 a' S'/\a'.length<=a.length+aj.length /\
   bh ⟨UB,xs0⟩ (bc (gN 5) M0 (run pg (k+14))) aj [fv (.ref 1),fv P.v,fv (aH S),e3,fv (.ref (J.length+1+1)),u5,u6,u7,u8] (aC ns::aB t::(J++ .lst (a.map cW)::X)) =
    .ok (.nx [fv (.ref 1),fv P.v,fv (aH S'),e3,fv (.ref (J.length+1+1)),v5,v6,v7,v8]) (aC ns::aB t'::(J++ .lst (a'.map cW)::X')):=by
 intro aj
 induction aj with
 | nil=>intro a S X t u5 u6 u7 u8 w _;exact⟨a,S,X,t,u5,u6,u7,u8,w,by simp,eK⟩
 | cons x aj ih =>
  intro a S X t u5 u6 u7 u8 w hN
  rw[UU] at hN
  have W:=w.ok ok W0
  let H:PH:=aC ns::aB t::(J++ .lst (a.map cW)::X)
  have cg:=yh T (k+1) H ok W
  let C:PO:= .lst ((pE P S).map jC)
  have cl:(pE P S).length<=4:=by
   have h1:(pE P S).length<=(Vq P.hs.length).length:=aag ..;rw[abj] at h1;have:=ok.many;omega
  have nk:=R9 (h:=aC ns::aB t::(J++ .lst (a.map cW)::(X++[C,.lst []]))) (n:=J.length+(X.length+1)+1+1) (m:=J.length+(X.length+(0+1)+1)+1+1) (l:=pE P S) (by rw[UG,UG,aQ,UG];exact bu) (by rw[UG,UG,aQ,UG,aQ];rfl)
  by_cases c0:pE P S=[]
  . obtain⟨a',S',X',t',v5,v6,v7,v8,g1,g2,g3⟩:=ih a S (X++[C,.lst []]) t (fv x) (fv (.ref (J.length+(X.length+1)+1+1))) u7 u8 w (by omega);refine⟨a',S',X',t',v5,v6,v7,v8,g1,by rw[UU];omega,?_⟩;rw[decide_eq_true c0] at nk;have st:bc (gN 5) M0 (run pg (k+14)) x [fv (.ref 1),fv P.v,fv (aH S),e3,fv (.ref (J.length+1+1)),u5,u6,u7,u8] H= .ok (.nx [fv (.ref 1),fv P.v,fv (aH S),e3,fv (.ref (J.length+1+1)),fv x,fv (.ref (J.length+(X.length+1)+1+1)),u7,u8]) (aC ns::aB t::(J++ .lst (a.map cW)::(X++[C,.lst []]))):=by
     simp only[H,C] at cg nk ⊢;simp? [M0,cg,nk]
    rw[dq,st,ck,bT,g3]
  . rw[decide_eq_false c0] at nk;have cp:0 < (pE P S).length:=XB.mpr c0;obtain⟨v,t1,v0,v1,ev⟩:=aR T (k+13) ns t ((pE P S).length:Int) (by omega) (by omega);obtain⟨y,ym,ey⟩:=Mi (xs:=(pE P S).map jC) v0 (by rw[UE];exact v1);obtain⟨c,cm,rfl⟩:=Vg.mp ym;obtain⟨mc,mw⟩:=XQ.mp cm;have hc:c < P.hs.length:=W4.mp mc;have hw:bO P S c= .non:=of_decide_eq_true mw;obtain⟨h,s,ct,ex,es,ec,so⟩:=om W hc;obtain⟨r,er⟩: ∃ r,h.2[s.row]?=fv r:=by
     cases e:h.2[s.row]? with
     | some r=>exact⟨r,rfl⟩
     | none =>
      have:bO P S c= .str "end" :=by unfold bO;rw[hZ ex es,e];rfl
      rw[this] at hw;cases hw
    obtain⟨g,t2,hg,gf,eg⟩:=Dq T (k+3) ns t1 (J++ .lst (a.map cW)::(X++[C,.lst []])) ok W ex es er
    let S1:=gS P S c ct h.2 s g r
    let l:=mP r (met P S c ct s g r).2.1 (met P S c ct s g r).2.2
    have st1:Hg P S c g l S1:=⟨h,s,ct,r,ex,es,ec,er,hw,hg,rfl,rfl⟩
    have w1:Wk P S0 (a++[(c,g,l)]) S1:=w.app (.cons st1 (.nil _));obtain⟨a',S',X',t',v5,v6,v7,v8,g1,g2,g3⟩:=ih (a++[(c,g,l)]) S1 (X++[C,.lst []]) t2 (fv x) (fv (.ref (J.length+(X.length+1)+1+1))) (fv (jC c)) (fv g) w1 (by rw[U5];simp;omega);refine⟨a',S',X',t',v5,v6,v7,v8,g1,by rw[U5] at g2;simp at g2;rw[UU];omega,?_⟩;have hz:(a.map cW).length < 16777216:=by rw[UE];omega
    have go:=xI T (k+1) (aC ns::aB t2::(J++ .lst ((a++[(c,g,l)]).map cW)::(X++[C,.lst []]))) ok W (by omega) ex es ec er hw hg;have go':run pg (k+14) "gone" [P.v,aH S,.int c,g] (aC ns::aB t2::(J++ .lst ((a++[(c,g,l)]).map cW)::(X++[C,.lst []])))= .ok (.tup [aH S1,l]) (aC ns::aB t2::(J++ .lst ((a++[(c,g,l)]).map cW)::(X++[C,.lst []]))):=go;have em:(a++[(c,g,l)]).map cW=a.map cW++[.tup [jC c,g]]:=by rw[Wa];rfl
    have st:bc (gN 5) M0 (run pg (k+14)) x [fv (.ref 1),fv P.v,fv (aH S),e3,fv (.ref (J.length+1+1)),u5,u6,u7,u8] H= .ok (.nx [fv (.ref 1),fv P.v,fv (aH S1),e3,fv (.ref (J.length+1+1)),fv x,fv (.ref (J.length+(X.length+1)+1+1)),fv (jC c),fv g]) (aC ns::aB t2::(J++ .lst ((a++[(c,g,l)]).map cW)::(X++[C,.lst []]))):=by
     rw[em] at go' ⊢
     clear_value S1 l
     simp only[H,C] at cg nk ev go' eg ⊢;simp only[jC] at ey go' eg ⊢;simp? [M0,cg,nk,UE,ev,ey,eg,uO hz,go']
    rw[dq,st,ck,bT,g3]
theorem Cd(k:Nat)(ns:List Int)(t:Tp)(J:PH){P:Pg}(ok:P.Ok){N:Nat}{S:Wd}(W:gb P N S)(m:Nat)(hN:N+m<=60) :
  ∃(a:List (Nat × PV × PV))(S':Wd)(t':Tp),Wk P S a S'/\a.length<=m/\run pg (k+15) "_law_run" [.ref 1,P.v,aH S,.int m] (aC ns::aB t::J)= .ok (.tup [.tup (a.map cW),aH S']) (aC ns::aB t'::J):=by
 have lr:(ak 0 m).length=m:=by unfold ak;simp
 obtain⟨a,S',X,t',v5,v6,v7,v8,w,la,lp⟩:=Aj T k ns ok W J (ak 0 m) (fv (.int m)) (ak 0 m) [] S [] t UB UB UB UB (.nil _) (by rw[lr];simpa using hN);rw[lr,V8,Nat.zero_add] at la;refine⟨a,S',t',w,la,?_⟩;have W':=w.ok ok W;have fl:PV.flat (.tup [.tup (a.map cW),aH S'])=true:=by
  have f1:=eQ _ (vO ok (by omega) W').ok;have f2:=eQ _ (AZ ok (by omega) (w.sh ok (by omega) W)).1.ok;rw[PV.flat,PV.aU,PV.aU,PV.aU,f1,f2];rfl
 have tn:YO (m:Int)=m:=VD m;rw[VU] at lp;unfold M0 at lp;rw[run_eq T.wF rfl];simp? [gD,mK,tn,lp];exact ee fl
end
noncomputable def kI:PV->Str
 | .int i=>UI (toString i)
 | _=> "-"
def fG(v:PV):Prop:=v= .non\/ ∃ i:Int,v= .int i/\0<=i/\i<=1000000
theorem mC{i:Int}(h0:0<=i)(h9:i<=1000000):(UI (toString i)).length<=13:=lK h0 h9
theorem AV{v:PV}(h:fG v):(kI v).length<=13:=by
 rcases h with rfl | ⟨i,rfl,h0,h9⟩
 . exact(by decide +kernel:(UI "-").length<=13)
 . exact mC h0 h9
def uA(k th:Str)(v:PV):Str:=ZI " " [k,if th= "" then "-" else th,kI v]
def P8(x:PV)(k th:Str)(v:PV):Prop:=(∃ m,x= .tup [.str k,.str th,v,m])/\k.length<=20/\th.length<=20/\fG v
theorem zK{k th:Str}{v:PV}(hk:k.length<=20)(ht:th.length<=20)(hv:fG v):JoinOk (UI " ") [k,if th= "" then "-" else th,kI v]=true:=by
 refine Ys ?_ (by decide +kernel);have h1:=AV hv;have h2:(if th= "" then(UI "-") else th).length<=20:=by
  split
  . exact(by decide +kernel)
  . exact ht
 simp only[UP,VU,XO,Z0,UU,V8];omega
section
variable{pg:Tb}(T:bD pg)
include T
theorem C5(j:Nat)(h:PH){v:PV}(hv:fG v):run pg (j+1) "shown_number" [v] h= .ok (.str (kI v)) h/\run pg (j+1) "_law_word" [v] h= .ok (.str (kI v)) h:=by
 rcases hv with rfl | ⟨i,rfl,h0,h9⟩
 . constructor
   . rw[run_eq T.hE rfl];simp? [bX,eO,kI]
   . rw[run_eq T.lQ rfl];simp? [dP,iE,kI]
 . have st:=λg=>CK (h:=g) h0 h9;constructor
   . rw[run_eq T.hE rfl];simp? [bX,eO,kI,st]
   . rw[run_eq T.lQ rfl];simp? [dP,iE,kI,st]
theorem EG(j:Nat)(h:PH){x:PV}{k th:Str}{v:PV}(l:P8 x k th v):run pg (j+2) "shown_look" [x] h= .ok (.str (uA k th v)) h/\run pg (j+2) "_law_look_text" [x] h= .ok (.str (uA k th v)) h:=by
 obtain⟨⟨m,rfl⟩,hk,ht,hv⟩:=l;have jo:=zK hk ht hv;have n1:=λg=>(C5 T j g hv).1;have n2:=λg=>(C5 T j g hv).2;have jn: ∀(g:PH)(n:Nat),g[n]?=fv (.lst [.str k,.str (if th= "" then "-" else th),.str (kI v)])->iF (.str " ") [.ref n] g= .ok (.str (uA k th v)) g:=λg n e=>vy (ss:=[k,if th= "" then "-" else th,kI v]) e jo;constructor
 . rw[run_eq T.rN rfl];have j1:=jn (h++[.lst [.str k,.str (if th= "" then "-" else th),.str (kI v)]]) h.length bu;by_cases z:th= ""
   . subst z;simp only[if_true] at j1;simp? [c7,gF,n1,vt,EX,dy,j1];exact aF rfl
   . simp only[if_neg z] at j1;simp? [c7,gF,z,n1,vt,EX,dy,j1];exact aF rfl
 . rw[run_eq T.kN rfl];have j1:=jn (h++[.lst [.str th,.str "-"],.lst [.str k,.str (if th= "" then "-" else th),.str (kI v)]]) (h.length+(0+1)) (by rw[aQ];rfl);by_cases z:th= ""
   . subst z;simp only[if_true] at j1;simp? [bJ,dt,n2,vt,EX,dy,j1,pN];exact aF rfl
   . simp only[if_neg z] at j1;simp? [bJ,dt,z,n2,vt,EX,dy,j1,Af];exact aF rfl
end
theorem uD(s:String):VI (UI s)=true:=by
 unfold VI;rw[Yb,Array.all_eq_true'];intro c m;rw[abr] at m;obtain⟨z,_,rfl⟩:=Vg.mp m;have:=z.valid;rw[decide_eq_true_eq];rcases this with h | h
 . have:z.val.toNat < 55296:=h;show z.val.toNat < _;omega
 . have:z.val.toNat < 1114112:=h.2;exact this
theorem Cj{a b:Str}(ha:VI a=true)(hb:VI b=true):VI (a++b)=true:=by
 unfold VI at ha hb ⊢;rw[Str.cps_append,Array.all_append,ha,hb];rfl
def Cc(nm:Str):PV->Str
 | .int i=>nm++UI ":" ++UI (toString i)
 | _=>nm
theorem MM{nm:Str}{g:PV}(h:Ab nm)(hg:fG g):VI (Cc nm g)=true/\(Cc nm g).length<=30:=by
 rcases hg with rfl | ⟨i,rfl,h0,h9⟩
 . exact⟨h.2.1,Va h.2.2 (by decide)⟩
 . refine⟨Cj (Cj h.2.1 (uD _)) (uD _),?_⟩;have h1:=mC h0 h9;have h2:=h.2.2;have h3:(UI ":").length=1:=by decide +kernel
   show(nm++UI ":" ++UI (toString i)).length<=30;rw[Yd,Yd];omega
noncomputable def px(P:Pg)(j:Nat):Str:=(P.hs[j]?.map (·.1)).getD ""
def sD(P:Pg)(a:List (Nat × PV × PV)):List Str:=a.map λz=>Cc (px P z.1) z.2.1
def ue(P:Pg)(a:List (Nat × PV × PV)):Str:=if sD P a=[] then "-" else ZI " " (sD P a)
def sS(P:Pg)(a:List (Nat × PV × PV)):Prop:=a.length<=60/\ ∀ z∈a,z.1 < P.hs.length/\fG z.2.1
theorem vY{P:Pg}{j:Nat}(h:j < P.hs.length): ∃ x,P.hs[j]?=fv x/\px P j=x.1:=⟨P.hs[j],UQ h,by unfold px;rw[UQ h];rfl⟩
theorem wJ{P:Pg}(pn:zX P){j:Nat}(h:j < P.hs.length):Ab (px P j):=by
 obtain⟨x,e,q⟩:=vY h;rw[q];exact pn.hs x (UR e)
theorem vV{P:Pg}(pn:zX P){a:List (Nat × PV × PV)}(h:sS P a): ∀ x∈sD P a,VI x=true/\x.length<=30:=λx m=>by
 obtain⟨z,mz,rfl⟩:=Vg.mp m;exact MM (wJ pn (h.2 z mz).1) (h.2 z mz).2
theorem xm: ∀{ss:List Str},(∀ x∈ss,x.length<=30)->(ss.map (·.length)).sum<=30*ss.length
 | [],_=>by simp
 | x::r,h=>by
  have h1:=h x UX;have h2:=xm (ss:=r) λz m=>h z (UZ _ m);rw[UP,XO,UU,Nat.mul_succ];omega
theorem uV{P:Pg}(pn:zX P){a:List (Nat × PV × PV)}(h:sS P a):JoinOk (UI " ") (sD P a)=true:=by
 refine Ys ?_ (by decide +kernel);have:=xm λx m=>(vV pn h x m).2;have l:(sD P a).length=a.length:=UE ..;have:=h.1;omega
theorem eq_nil{h:PH}{n m:Nat}{ss:List Str}(e1:h[n]?=fv (.lst (ss.map PV.str)))(e2:h[m]?=fv (.lst []))(ok: ∀ x∈ss,VI x=true):ja (.ref n) (.ref m) h= .ok (.bl (decide (ss=[]))) h:=by
 have al:=p6 e1 e2 (ds:=ss.map XZ) (λsub=>jz ss) (by rw[YB];exact Xs.mpr ok);unfold ja;rw[al];cases ss<;>rfl
section
variable{pg:Tb}(T:bD pg)
include T
theorem wx(k:Nat)(h:PH)(P:Pg)(ok:P.Ok):run pg (k+1) "names_of" [P.v,.str "hand"] h= .ok (.ref h.length) (h++[.lst ((P.hs.map (·.1)).map PV.str)]):=by
 have hm:=ok.many;rw [run_eq T.oy rfl];have q:sU (.ktup [(.str "box"),(.str "lock"),(.str "lane"),(.str "door"),(.str "hand")]) [.str "hand"] h= .ok (.int 4) h:=AF (ss:=["box", "lock", "lane", "door", "hand"]) (a:= "hand") (by decide +kernel);have lc: ∀ E:aZ,E=[fv P.v,fv (.str "hand"),fv (.tup (P.hs.map df))]->ia ⟨UB,P.hs.map df⟩ (aX 1 (gN 3) aS (eX 3 0) (run pg k) E) (P.hs.map df) [] h= .ok ((P.hs.map (·.1)).map PV.str) h:=by
  rintro _ rfl;rw [Wj];refine OB (l:=P.hs) (f:=PV.str ∘ λz:Str × List Rw=>z.1) (by omega) λx _=>?_;simp? [df];rfl
 have lc':=lc _ rfl;unfold Pg.v at lc';simp? [eR,ju,Pg.v,Hj,q,lc'];exact bg rfl
theorem step_eq(k:Nat)(h:PH){P:Pg}(ok:P.Ok)(pn:zX P){z:Nat × PV × PV}(hz:z.1 < P.hs.length)(hg:fG z.2.1):run pg (k+3) "shown_step" [P.v,cW z] h= .ok (.str (Cc (px P z.1) z.2.1)) h:=by
 obtain⟨j,g,l⟩:=z;have hz:j < P.hs.length:=hz;have hg:fG g:=hg;obtain⟨x,ex,en⟩:=vY hz;have nk:=wJ pn hz;have n1:=wx T k h P ok;have hn:run pg (k+2) "hand_name" [P.v,.int (j:Int)] h= .ok (.str (px P j)) h:=by
  rw[run_eq T.uR rfl];have ix:aG (.ref h.length) (.int (j:Int)) (h++[.lst ((P.hs.map (·.1)).map PV.str)])= .ok (.str (px P j)) (h++[.lst ((P.hs.map (·.1)).map PV.str)]):=by
   rw[Fe,bu,L1,show cR ((P.hs.map (·.1)).map PV.str) (j:Int)=fv (.str (px P j)) from P3.c9 rfl (by rw[U1,U1,ex,en];rfl)];rfl
  simp? [fF,ly,n1,ix];exact aF rfl
 rw[run_eq T.rA rfl];rcases hg with hg | ⟨i,hg,h0,h9⟩
 . have hg':g= .non:=hg;subst hg';simp? [cY,gu,cW,jC,hn,Cc]
 . have hg':g= .int i:=hg;subst hg';have st:=λg=>CK (h:=g) h0 h9;have h1:=mC h0 h9;have h2:=nk.2.2;have h3:(UI ":").length=1:=by decide +kernel
   have a1: ∀ g,aL (.str (px P j)) (.str ":") g= .ok (.str (px P j++UI ":")) g:=λg=>jS (by rw[h3];omega);have a2: ∀ g,aL (.str (px P j++UI ":")) (.str (UI (toString i))) g= .ok (.str (px P j++UI ":" ++UI (toString i))) g:=λg=>jS (by rw[Yd,h3];omega);simp? [cY,gu,cW,jC,hn,st,a1,a2,Cc]
theorem jI(k:Nat)(h:PH){P:Pg}(ok:P.Ok)(pn:zX P){a:List (Nat × PV × PV)}(ra:sS P a):run pg (k+4) "shown_run" [P.v,.tup (a.map cW)] h= .ok (.str (ue P a)) h:=by
 have lc:ia ⟨UB,a.map cW⟩ (aX 1 (gN 2) aS (ae "shown_step" (a2 (aa 0) (aa 2))) (run pg (k+3)) [fv P.v,fv (.tup (a.map cW))]) (a.map cW) [] h= .ok ((sD P a).map PV.str) h:=by
  unfold sD;rw[Wj];refine OB (l:=a) (f:=PV.str ∘ λz=>Cc (px P z.1) z.2.1) (by have:=ra.1;omega) λz m=>?_;have:=step_eq T k h ok pn (ra.2 z m).1 (ra.2 z m).2;simp? [this];rfl
 have jo:=uV pn ra
 let H:PH:=h++[.lst ((sD P a).map PV.str)]
 have sp:run pg (k+3) "shown_parts" [.str " ",.ref h.length] H= .ok (.str (ue P a)) H:=by
  have eq:=eq_nil (h:=H++[.lst []]) (n:=h.length) (m:=H.length) (ss:=sD P a) (by rw[aP (by simp[H])];exact bu) bu λx m=>(vV pn ra x m).1;have jn:iF (.str " ") [.ref h.length] (H++[.lst []])= .ok (.str (ZI " " (sD P a))) (H++[.lst []]):=vy (by rw[aP (by simp[H])];exact bu) jo;rw[run_eq T.oP rfl];unfold ue
  clear_value H
  by_cases z:sD P a=[]
  . rw[decide_eq_true z] at eq;simp? [cx,fM,eq,z];exact aF rfl
  . rw[decide_eq_false z] at eq;simp? [cx,fM,eq,z,vt,EX,dy,jn];exact aF rfl
 rw[run_eq T.sT rfl];simp only[H] at sp;simp? [fJ,lJ,lc,sp];exact aF rfl
end
def NG:MG:=(gT 2 (aI (gN 3) (aI (gN 4) cZ)))
def Pu:MS:=(cI (eM bw bM (aa 2) (ab (ao aL (ao aG (ao aG (eX 0 4) (aa 3)) (eI 0)) (vd (aA (u9 (fz false) (aa 4))) (eS "") (ao aL (eS ":") (eB lO (a1 (aa 4)))))) ah)))
section
variable{pg:Tb}(T:bD pg)
include T
omit T in
theorem D2(c:CF)(h:PH){P:Pg}(pn:zX P)(xs0:List PV)(e1:Option PV): ∀(a:List (Nat × PV × PV))(ss:List Str)(u3 u4:Option PV),(∀ z∈a,z.1 < P.hs.length/\fG z.2.1)->ss.length+a.length<=900-> ∃ v3 v4:Option PV,
  bh ⟨UB,xs0⟩ (bc NG Pu c) (a.map cW) [fv P.v,e1,fv (.ref h.length),u3,u4] (h++[.lst (ss.map PV.str)])= .ok (.nx [fv P.v,e1,fv (.ref h.length),v3,v4]) (h++[.lst ((ss++sD P a).map PV.str)]):=by
 intro a
 induction a with
 | nil=>intro ss u3 u4 _ _;exact⟨u3,u4,by rw[show sD P []=[] from rfl,Vp];exact eK⟩
 | cons z a ih =>
  intro ss u3 u4 hz hl
  rw[UU] at hl
  obtain⟨j,g,l⟩:=z
  have hj:j < P.hs.length:=(hz _ UX).1
  have hg:fG g:=(hz _ UX).2
  obtain⟨x,ex,en⟩:=vY hj
  have nk:=wJ pn hj
  obtain⟨v3,v4,g1⟩:=ih (ss++[Cc (px P j) g]) (fv (jC j)) (fv g) (λz m=>hz z (UZ _ m)) (by rw[U5];simp;omega)
  refine⟨v3,v4,?_⟩
  have hl':(ss.map PV.str).length < 16777216:=by rw[UE];omega
  have i4: ∀ g,aG P.v (.int 4) g= .ok (.tup (P.hs.map df)) g:=λg=>A8
  have i5: ∀ g,aG (.tup (P.hs.map df)) (.int (j:Int)) g= .ok (df x) g:=λg=>k4 (gK ex)
  have i0: ∀ g,aG (df x) (.int 0) g= .ok (.str (px P j)) g:=λg=>by rw[en];exact qI
  have st:bc NG Pu c (cW (j,g,l)) [fv P.v,e1,fv (.ref h.length),u3,u4] (h++[.lst (ss.map PV.str)])= .ok (.nx [fv P.v,e1,fv (.ref h.length),fv (jC j),fv g]) (h++[.lst ((ss++[Cc (px P j) g]).map PV.str)]):=by
   rw[Wa];rcases hg with hg | ⟨i,hg,h0,h9⟩
   . have hg':g= .non:=hg;subst hg';have h2:=nk.2.2;have h3:(UI "").length=0:=by decide +kernel
     have a1: ∀ g,aL (.str (px P j)) (.str "") g= .ok (.str (px P j)) g:=λg=>by
      have:=jS (a:=px P j) (b:=UI "") (h:=g) (by rw[h3];omega);rw[this,show UI "" =Str.empty from by decide +kernel,Str.append_empty]
     simp? [NG,Pu,cW,jC,i4,i5,i0,a1,uO hl',Cc]
   . have hg':g= .int i:=hg;subst hg';have st:=λg=>CK (h:=g) h0 h9;have h1:=mC h0 h9;have h2:=nk.2.2;have h3:(UI ":").length=1:=by decide +kernel
     have a1: ∀ g,aL (.str ":") (.str (UI (toString i))) g= .ok (.str (UI ":" ++UI (toString i))) g:=λg=>jS (by rw[h3];omega);have a2: ∀ g,aL (.str (px P j)) (.str (UI ":" ++UI (toString i))) g= .ok (.str (px P j++UI ":" ++UI (toString i))) g:=λg=>by
      rw[Str.append_assoc];exact jS (by rw[Yd,h3];omega)
     simp? [NG,Pu,cW,jC,i4,i5,i0,st,a1,a2,uO hl',Cc]
  rw[UP,dq,st,ck,bT,g1,Vm]
  rfl
theorem sL(k:Nat)(h:PH){P:Pg}(pn:zX P){a:List (Nat × PV × PV)}(ra:sS P a):run pg (k+1) "_law_run_text" [P.v,.tup (a.map cW)] h= .ok (.str (ue P a)) h:=by
 obtain⟨v3,v4,lp⟩:=D2 (run pg k) h pn (a.map cW) (fv (.tup (a.map cW))) a [] UB UB ra.2 (by have:=ra.1;simp;omega);rw[VJ,VU] at lp;have jo:=uV pn ra
 let H:PH:=h++[.lst ((sD P a).map PV.str)]
 have ne:=ne_nil (h:=H++[.lst []]) (n:=h.length) (m:=H.length) (ss:=sD P a) (by rw[aP (by simp[H])];exact bu) bu λx m=>(vV pn ra x m).1;have jn:iF (.str " ") [.ref h.length] (H++[.lst []])= .ok (.str (ZI " " (sD P a))) (H++[.lst []]):=vy (by rw[aP (by simp[H])];exact bu) jo;unfold NG Pu at lp;rw[run_eq T.l4 rfl];unfold ue;simp only[H,Vm,abw,VJ,U5,UU,V8] at ne jn;by_cases z:sD P a=[]
 . rw[decide_eq_true z,z,VU] at ne;simp? [bN,dS,lp,ne,z];refine aF (v:= .str _) ?_;rfl
 . rw[decide_eq_false z] at ne;simp? [bN,dS,lp,ne,z,vt,EX,dy,jn];exact aF rfl
end
def SO:MS:=(ai (aK (ab (eS "get") (ab (eS "put") (ab (eS "take") (ab (eS "free") (ab (eS "send") (ab (eS "fetch") (ab (eS "say") (a3 (eS "clock") (eS "lot") (eS "hear")))))))))) (gN 2))
def lo1:MS:=(ai (ao aG (aa 2) (ae "_law_draw" (a2 (aa 0) (eI 10)))) (gN 3))
def Th:MS:=(ai (ao aG (aK (ab (ao aG (ao aG (eX 1 0) (eI 0)) (eI 0)) (a3 (eS "a") (eS "z") (eS "abcdefgh")))) (ae "_law_draw" (a2 (aa 0) (eI 4)))) (gN 4))
def TF:MS:=(ai (ao aG (aK (ab (eI 0) (ab (eI 1) (ab (eI 999) (ab (ae "_law_draw" (a2 (aa 0) (eI 1000))) ah))))) (ae "_law_draw" (a2 (aa 0) (eI 4)))) (gN 5))
def T9:MS:=(ai (ao aG (aK (ab (eC .non) (ab (av (a2 (eI 0) (eI 3))) ah))) (ae "_law_draw" (a2 (aa 0) (eI 2)))) (gN 6))
def Uo:MS:=(bB (aA (ao j8 (aa 3) (av (a2 (eS "clock") (eS "lot"))))) (ai (eS "") (gN 4)) bF)
def Uv:MS:=(bB (aA (ao j8 (aa 3) (av (a2 (eS "take") (eS "free"))))) (ai (eC .non) (gN 5)) bF)
def Us:MS:=(bB (aA (ao j8 (aa 3) (av (ab (eS "free") (a3 (eS "clock") (eS "lot") (eS "hear")))))) (ai (eC .non) (gN 6)) bF)
def Uy:MS:=(bB (aA (ao j8 (aa 3) (av (a3 (eS "send") (eS "fetch") (eS "say"))))) (ai (ae "_law_draw" (a2 (aa 0) (eI 9))) (gN 6)) bF)
def Te:MS:=(ar (av (ab (aa 3) (a3 (aa 4) (aa 5) (aa 6)))))
def NV:MS:=Te
def So:MS:=ag Uy NV
def Rg:MS:=ag Us So
def Rk:MS:=ag Uv Rg
def Rl:MS:=ag Uo Rk
def RU:MS:=ag T9 Rl
def Rv:MS:=ag TF RU
def RN:MS:=ag Th Rv
def Ry:MS:=ag lo1 RN
theorem C0{c:Int}(c0:0<=c)(c1:c < 5): ∃ n:Nat,n<=24/\cR [PV.int 3,.int 6,.int 9,.int 14,.int 24] c=fv (.int (n:Int)):=by
 rcases(show c=0\/c=1\/c=2\/c=3\/c=4 by omega) with rfl | rfl | rfl | rfl | rfl
 . exact⟨3,by decide,rfl⟩
 . exact⟨6,by decide,rfl⟩
 . exact⟨9,by decide,rfl⟩
 . exact⟨14,by decide,rfl⟩
 . exact⟨24,by decide,rfl⟩
def Qp:MS:=(bB (aA (ao ja (ae "_law_draw" (a2 (aa 0) (eI 3))) (eI 0))) (ai (ao aG (ae "_law_run" (ab (aa 0) (ab (aa 1) (ab (aa 2) (ab (ao aL (eI 1) (ae "_law_draw" (a2 (aa 0) (eI 6)))) ah))))) (eI 1)) (gN 2)) bF)
section
variable{pg:Tb}(T:bD pg)
include T
theorem BJ(k:Nat)(ns:List Int)(t:Tp)(J:PH): ∃(P:Pg)(N:Nat)(S S':Wd)(a:List (Nat × PV × PV))(t':Tp),P.Ok/\zX P/\gb P N S/\N<=6/\Wk P S a S'/\a.length<=24 /\
  run pg (k+16) "_law_world" [.ref 1] (aC ns::aB t::J)= .ok (.tup [P.v,aH S,.tup (a.map cW)]) (aC ns::aB t'::J):=by
 obtain⟨P,t1,ok,pn,e1⟩:=wm T (k+5) ns t J;have fs:=nv T (k+3) (aC ns::aB t1::J) ok;obtain⟨v,t2,v0,v1,ev⟩:=aR T (k+14) ns t1 3 (by decide) (by decide);obtain⟨N,S,t3,N6,W,A⟩: ∃(N:Nat)(S:Wd)(t3:Tp),N<=6/\gb P N S/\Qp (run pg (k+15)) [fv (.ref 1),fv P.v,fv (aH (kY P))] (aC ns::aB t1::J)= .ok (.nx [fv (.ref 1),fv P.v,fv (aH S)]) (aC ns::aB t3::J):=by
  by_cases z:v=0
  . obtain⟨u,t3,u0,u1,eu⟩:=aR T (k+14) ns t2 6 (by decide) (by decide);obtain⟨m,em⟩: ∃ m:Nat,1+u=(m:Int):=We (by omega);obtain⟨a,S,t4,w,la,er⟩:=Cd T k ns t3 J ok (rH ok) m (by omega);refine⟨0+a.length,S,t4,by omega,w.ok ok (rH ok),?_⟩;subst z;simp? [Qp,ev,eu,em,er]
  . refine⟨0,kY P,t2,by decide,rH ok,?_⟩;simp? [Qp,ev,z]
 obtain⟨c,t4,c0,c1,ec⟩:=aR T (k+14) ns t3 5 (by decide) (by decide);obtain⟨m,m9,em⟩:=C0 c0 c1
 let L:PH:=[.lst [.int 3,.int 6,.int 9,.int 14,.int 24]]
 obtain⟨a,S',t5,w,la,er⟩:=Cd T k ns t4 (J++L) ok W m (by omega);refine⟨P,N,S,S',a,t5,ok,pn,W,N6,w,by omega,?_⟩;have fl:PV.flat (.tup [P.v,aH S,.tup (a.map cW)])=true:=by
  have f1:=eQ _ (vO ok (by omega) W).ok;have f2:=eQ _ (AZ ok (by omega) (w.sh ok (by omega) W)).1.ok;rw[PV.flat,PV.aU,PV.aU,PV.aU,PV.aU,f1,f2,P.flat];rfl
 unfold Qp at A;simp only[L] at er;rw[run_eq T.rU rfl];simp? [dY,jM,e1,fs,↓A,ec,em,er];exact ee fl
end
def MW(x:PV):Prop:= ∃ k th v,P8 x k th v
theorem GA{P:Pg}{S:Wd}{j:Nat}{c:Int}{s:fY}{g:PV}{r:Rw}(hg:fj r g):(met P S j c s g r).2.1= .non\/ ∃ i:Int,(met P S j c s g r).2.1= .int i:=by
 have gg:g= .non\/ ∃ i:Int,g= .int i:=by
  cases e:cE r with
  | true=>obtain⟨i,h,_⟩:=hg.1 e;exact .inr ⟨i,h⟩
  | false=>exact .inl (hg.2 e)
 cases r<;>first | exact .inl rfl | exact .inr ⟨_,rfl⟩ | exact gg
theorem C8{v:PV}(h:v= .non\/ ∃ i:Int,v= .int i)(s:Sh 0 0 v):fG v:=by
 rcases h with h | ⟨i,rfl⟩
 . exact .inl h
 . have:=s.ok;rw[wU,decide_eq_true_eq] at this;exact .inr ⟨i,rfl,this⟩
theorem yF{P:Pg}(ok:P.Ok){N:Nat}(N9:N<=100){S S1:Wd}{j:Nat}{g l:PV}(W:gb P N S)(h:Hg P S j g l S1):j < P.hs.length/\fG g/\MW l:=by
 obtain⟨x,s,c,r,ex,es,ec,er,hw,hg,rfl,rfl⟩:=h.at_;obtain⟨m1,m2,m3⟩:=Cm (c:=c) ok N9 W ex es er hg;obtain⟨t1,t2⟩:=HD ok ex (UR er);refine⟨(UJ.mp ex).1,?_,r.w,r.tg,_,⟨_,rfl⟩,wc t1,wc t2,C8 (GA hg) m2⟩;refine C8 ?_ m1;cases e:cE r with
 | true=>obtain⟨i,h,_⟩:=hg.1 e;exact .inr ⟨i,h⟩
 | false=>exact .inl (hg.2 e)
theorem CP{P:Pg}(ok:P.Ok){S S2:Wd}{a:List (Nat × PV × PV)}(h:Wk P S a S2): ∀{N:Nat},N+a.length<=100->gb P N S-> ∀ z∈a,z.1 < P.hs.length/\fG z.2.1/\MW z.2.2:=by
 induction h with
 | nil=>intro N _ _ z m;nomatch m
 | cons h _ ih =>
  intro N hN W z m
  rw[UU] at hN
  rcases UW.mp m with rfl | m
  . exact yF ok (by omega) W h
  . exact ih (by omega) (h.ok ok W) z m
theorem x8{c:CF}{e e1:aZ}{h h1:PH}{k:Str}{ss:List Str}{l:ME}{x:ME}{a:MS}(hx: ∀ g,x c e g= .ok (.str k) g)(hl: ∀ g,l c e g= .ok (.tup (ss.map PV.str)) g)(ha:k∈ss->a c e h= .ok (.nx e1) h1) :
  ∃(f:aZ)(h2:PH),((f=e1/\h2=h1)\/(f=e/\h2=h))/\bB (aA (ao j8 x l)) a bF c e h= .ok (.nx f) h2:=by
 have q:ao j8 x l c e h= .ok (.bl (decide (k∈ss))) h:=by
  simp? [hx,hl,Jp]
 by_cases z:k∈ss
 . refine⟨e1,h1,.inl ⟨rfl,rfl⟩,?_⟩;rw[decide_eq_true z] at q;rw[wL,wC,q,ck,wK,ck,xD,ha z]
 . refine ⟨e,h,.inr ⟨rfl,rfl⟩,?_⟩;rw [decide_eq_false z] at q;rw [wL,wC,q,ck,wK,ck,xJ,G2]
noncomputable def KD:List Str:=["get", "put", "take", "free", "send", "fetch", "say", "clock", "lot", "hear"]
theorem HJ: ∀ x∈KD,x.length<=20:=by decide +kernel
section
variable {pg:Tb} (T:bD pg)
include T
theorem DN(j:Nat)(ns:List Int)(t:Tp)(J:PH){P:Pg}(pn:zX P): ∃(x:PV)(t':Tp),MW x/\run pg (j+2) "_law_look" [.ref 1,P.v] (aC ns::aB t::J)= .ok x (aC ns::aB t'::J):=by
 obtain⟨b,bs,eb⟩: ∃ b bs,P.bs=b::bs:=by
  cases e:P.bs with
  | nil=>have:=pn.ne;rw[e] at this;simp at this
  | cons b bs=>exact⟨b,bs,rfl⟩
 have bn:Ab b.1:=pn.bs b (by rw[eb];exact UX);have i0: ∀ g,aG P.v (.int 0) g= .ok (.tup (P.bs.map fg)) g:=λg=>qI;have i1: ∀ g,aG (.tup (P.bs.map fg)) (.int 0) g= .ok (fg b) g:=λg=>by rw[eb];exact qI
 have i2: ∀ g,aG (fg b) (.int 0) g= .ok (.str b.1) g:=λg=>qI;obtain ⟨v1,t1,a1,c1,d1⟩:=aR T j ns t 10 (by decide) (by decide);obtain ⟨k,mk,ek⟩:=hU (ss:=KD) a1 (by simpa [KD] using c1);obtain ⟨v2,t2,x2,c2,d2⟩:=aR T j ns t1 4 (by decide) (by decide);obtain ⟨th,mth,eth⟩:=hU (ss:=[b.1, "a", "z", "abcdefgh"]) x2 (by simpa using c2);have eth':cR [PV.str b.1,.str "a",.str "z",.str "abcdefgh"] v2=fv (.str th):=eth;have lth:th.length<=20:=by
  simp only [UW,Vc,or_false] at mth;rcases mth with rfl | rfl | rfl | rfl
  . have:=bn.2.2;omega
  . decide +kernel
  . decide +kernel
  . decide +kernel
 obtain⟨v3,t3,x3,c3,d3⟩:=aR T j ns t2 1000 (by decide) (by decide);obtain⟨v4,t4,x4,c4,d4⟩:=aR T j ns t3 4 (by decide) (by decide);obtain⟨n,mn,en⟩:=jq (xs:=[0,1,999,v3]) x4 (by simpa using c4);have en':cR [PV.int 0,.int 1,.int 999,.int v3] v4=fv (.int n):=en;have n9:0<=n/\n<=1000000:=by
  simp only[UW,Vc,or_false] at mn;omega
 obtain⟨v5,t5,x5,c5,d5⟩:=aR T j ns t4 2 (by decide) (by decide);obtain⟨mk',fm,em⟩: ∃ m:PV,m.flat=true/\cR [PV.non,.tup [.int 0,.int 3]] v5=fv m:=by
  rcases(show v5=0\/v5=1 by omega) with rfl | rfl
  . exact ⟨_,rfl,rfl⟩
  . exact ⟨_,rfl,rfl⟩
 let X:PH:=[.lst (KD.map PV.str),.lst [.str b.1,.str "a",.str "z",.str "abcdefgh"],.lst [.int 0,.int 1,.int 999,.int v3],.lst [.non,.tup [.int 0,.int 3]]]
 obtain ⟨f1,h1,z1,s1⟩:=x8 (c:=run pg (j+1)) (e:=[fv (.ref 1),fv P.v,fv (.ref (J.length+1+1)),fv (.str k),fv (.str th),fv (.int n),fv mk']) (h:=aC ns::aB t5::(J++X)) (k:=k) (ss:=["clock", "lot"]) (x:=aa 3) (l:=av (a2 (eS "clock") (eS "lot"))) (a:=ai (eS "") (gN 4)) (λg=>rfl) (λg=>rfl) (λ_=>rfl);obtain ⟨th',lth',rfl,rfl⟩: ∃ th':Str,th'.length<=20∧f1=[fv (.ref 1),fv P.v,fv (.ref (J.length+1+1)),fv (.str k),fv (.str th'),fv (.int n),fv mk']∧h1=aC ns::aB t5::(J++X):=by
  rcases z1 with ⟨rfl,rfl⟩ | ⟨rfl,rfl⟩
  . exact ⟨"",by decide +kernel,rfl,rfl⟩
  . exact ⟨th,lth,rfl,rfl⟩
 obtain ⟨f2,h2,z2,s2⟩:=x8 (c:=run pg (j+1)) (e:=[fv (.ref 1),fv P.v,fv (.ref (J.length+1+1)),fv (.str k),fv (.str th'),fv (.int n),fv mk']) (h:=aC ns::aB t5::(J++X)) (k:=k) (ss:=["take", "free"]) (x:=aa 3) (l:=av (a2 (eS "take") (eS "free"))) (a:=ai (eC .non) (gN 5)) (λg=>rfl) (λg=>rfl) (λ_=>rfl);obtain ⟨w,hw,rfl,rfl⟩: ∃ w:PV,fG w∧f2=[fv (.ref 1),fv P.v,fv (.ref (J.length+1+1)),fv (.str k),fv (.str th'),fv w,fv mk']∧h2=aC ns::aB t5::(J++X):=by
  rcases z2 with ⟨rfl,rfl⟩ | ⟨rfl,rfl⟩
  . exact ⟨.non,.inl rfl,rfl,rfl⟩
  . exact ⟨.int n,.inr ⟨n,rfl,n9⟩,rfl,rfl⟩
 obtain ⟨f3,h3,z3,s3⟩:=x8 (c:=run pg (j+1)) (e:=[fv (.ref 1),fv P.v,fv (.ref (J.length+1+1)),fv (.str k),fv (.str th'),fv w,fv mk']) (h:=aC ns::aB t5::(J++X)) (k:=k) (ss:=["free", "clock", "lot", "hear"]) (x:=aa 3) (l:=av (ab (eS "free") (a3 (eS "clock") (eS "lot") (eS "hear")))) (a:=ai (eC .non) (gN 6)) (λg=>rfl) (λg=>rfl) (λ_=>rfl);obtain ⟨m2,fm2,rfl,rfl⟩: ∃ m:PV,m.flat=true∧f3=[fv (.ref 1),fv P.v,fv (.ref (J.length+1+1)),fv (.str k),fv (.str th'),fv w,fv m]∧h3=aC ns::aB t5::(J++X):=by
  rcases z3 with ⟨rfl,rfl⟩ | ⟨rfl,rfl⟩
  . exact ⟨.non,rfl,rfl,rfl⟩
  . exact ⟨mk',fm,rfl,rfl⟩
 obtain ⟨v6,t6,x6,c6,d6⟩:=aR T j ns t5 9 (by decide) (by decide);obtain ⟨f4,h4,z4,s4⟩:=x8 (c:=run pg (j+1)) (e:=[fv (.ref 1),fv P.v,fv (.ref (J.length+1+1)),fv (.str k),fv (.str th'),fv w,fv m2]) (h:=aC ns::aB t5::(J++X)) (e1:=[fv (.ref 1),fv P.v,fv (.ref (J.length+1+1)),fv (.str k),fv (.str th'),fv w,fv (.int v6)]) (h1:=aC ns::aB t6::(J++X)) (k:=k) (ss:=["send", "fetch", "say"]) (x:=aa 3) (l:=av (a3 (eS "send") (eS "fetch") (eS "say"))) (a:=ai (ae "_law_draw" (a2 (aa 0) (eI 9))) (gN 6)) (λg=>rfl) (λg=>rfl) (λ_=>by simp? [d6]);obtain ⟨m3,t7,fm3,rfl,rfl⟩: ∃ (m:PV) (t7:Tp),m.flat=true∧f4=[fv (.ref 1),fv P.v,fv (.ref (J.length+1+1)),fv (.str k),fv (.str th'),fv w,fv m]∧h4=aC ns::aB t7::(J++X):=by
  rcases z4 with ⟨rfl,rfl⟩ | ⟨rfl,rfl⟩
  . exact ⟨.int v6,t6,rfl,rfl,rfl⟩
  . exact⟨m2,t5,fm2,rfl,rfl⟩
 refine⟨.tup [.str k,.str th',w,m3],t7,⟨k,th',w,⟨m3,rfl⟩,HJ k mk,lth',hw⟩,?_⟩;have A:lP (run pg (j+1)) [fv (.ref 1),fv P.v,UB,UB,UB,UB,UB] (aC ns::aB t::J)= .ok (.rt (.tup [.str k,.str th',w,m3])) (aC ns::aB t7::(J++X)):=by
  show ag SO Ry _ _ _=_;refine(aO (e1:=[fv (.ref 1),fv P.v,fv (.ref (J.length+1+1)),UB,UB,UB,UB]) (h1:=aC ns::aB t::(J++[.lst (KD.map PV.str)])) ?_).trans ?_
  . simp? [SO,KD]
  refine(aO (e1:=[fv (.ref 1),fv P.v,fv (.ref (J.length+1+1)),fv (.str k),UB,UB,UB]) (h1:=aC ns::aB t1::(J++[.lst (KD.map PV.str)])) ?_).trans ?_
  . simp? [lo1,d1,ek]
  refine(aO (e1:=[fv (.ref 1),fv P.v,fv (.ref (J.length+1+1)),fv (.str k),fv (.str th),UB,UB]) (h1:=aC ns::aB t2::(J++[.lst (KD.map PV.str),.lst [.str b.1,.str "a",.str "z",.str "abcdefgh"]])) ?_).trans ?_
  . simp? [Th,i0,i1,i2,d2,eth']
  refine(aO (e1:=[fv (.ref 1),fv P.v,fv (.ref (J.length+1+1)),fv (.str k),fv (.str th),fv (.int n),UB]) (h1:=aC ns::aB t4::(J++[.lst (KD.map PV.str),.lst [.str b.1,.str "a",.str "z",.str "abcdefgh"],.lst [.int 0,.int 1,.int 999,.int v3]])) ?_).trans ?_
  . simp? [TF,d3,d4,en']
  refine(aO (e1:=[fv (.ref 1),fv P.v,fv (.ref (J.length+1+1)),fv (.str k),fv (.str th),fv (.int n),fv mk']) (h1:=aC ns::aB t5::(J++X)) ?_).trans ?_
  . simp? [T9,d5,em,X]
  refine(aO s1).trans ((aO s2).trans ((aO s3).trans ((aO s4).trans ?_)));simp? [NV,Te]
 rw[run_eq T.tf rfl];refine(congrArg (fin _) A).trans ?_;rw[iK];refine ee ?_;have fw:w.flat=true:=by rcases hw with rfl | ⟨i,rfl,_⟩<;>rfl
 rw[PV.flat,PV.aU,PV.aU,PV.aU,PV.aU,PV.aU,fw,fm3];rfl
end
noncomputable def room:Nat:=16
def SH:MS:=(ai (ae "_law_tape" (a1 (aa 0))) (gN 1))
def S7:MS:=(ai (ae "_law_world" (a1 (aa 1))) (gT 3 (aI (gN 2) (aI (gN 3) (aI (gN 4) cZ)))))
def Td:MS:=(ai (jf 2 (my (ao aG (ae "walked" (a3 (aa 2) (aa 3) (aa 4))) (eI 1))) (gT 2 (aI (gN 9) (aI (gN 10) cZ))) aS (aa 10)) (gN 5))
def Uq:MS:=(fZ (my (ao aL (aa 5) (jf 1 (bf (a1 (eI 12))) (gN 9) aS (ae "_law_look" (a2 (aa 1) (aa 2)))))) (gN 6) (ag (ai (ae "shown_look" (a1 (aa 6))) (gN 7)) (bB (zW (kK (aA (eB i7 (ab (aa 7) (ab (eC (.ty "str")) ah))))) (aA (ao g7 (aa 7) (ae "_law_look_text" (a1 (aa 6)))))) (ar (eC (.bl false))) bF)))
def Sy:MS:=(fZ (bf (ab (ao aL (eB bH (a1 (aa 4))) (eI 1)) ah)) (gN 8) (ag (ai (ae "shown_run" (ab (aa 2) (ab (ph (aa 4) de (bS (aa 8))) ah))) (gN 7)) (bB (zW (kK (aA (eB i7 (ab (aa 7) (ab (eC (.ty "str")) ah))))) (aA (ao g7 (aa 7) (ae "_law_run_text" (ab (aa 2) (ab (ph (aa 4) de (bS (aa 8))) ah)))))) (ar (eC (.bl false))) bF)))
def Tu:MS:=(ar (ao ja (ae "shown_run" (a2 (aa 2) (av ah))) (eS "-")))
def NH:MS:=Tu
def RQ:MS:=ag Sy NH
def Sv:MS:=ag Uq RQ
def RS:MS:=ag Td Sv
def Sa:MS:=ag S7 RS
def Qz:MS:=(ag (ai (ae "shown_look" (a1 (aa 6))) (gN 7)) (bB (zW (kK (aA (eB i7 (ab (aa 7) (ab (eC (.ty "str")) ah))))) (aA (ao g7 (aa 7) (ae "_law_look_text" (a1 (aa 6)))))) (ar (eC (.bl false))) bF))
def Oj:MS:=(ag (ai (ae "shown_run" (ab (aa 2) (ab (ph (aa 4) de (bS (aa 8))) ah))) (gN 7)) (bB (zW (kK (aA (eB i7 (ab (aa 7) (ab (eC (.ty "str")) ah))))) (aA (ao g7 (aa 7) (ae "_law_run_text" (ab (aa 2) (ab (ph (aa 4) de (bS (aa 8))) ah)))))) (ar (eC (.bl false))) bF))
section
variable{pg:Tb}(T:bD pg)
include T
theorem vk(k:Nat){n:Nat}{xs0:List PV}{H:PH}(e0:H[n]?=fv (.lst xs0))(e1 e2 e3 e4 e5 e8:Option PV)(z:PV): ∀(xs:List PV)(u6 u7:Option PV),(∀ x∈xs,MW x)-> ∃ v6 v7:Option PV,
  bh ⟨fv n,xs0⟩ (bc (gN 6) Qz (run pg (k+2))) xs [fv z,e1,e2,e3,e4,e5,u6,u7,e8] H= .ok (.nx [fv z,e1,e2,e3,e4,e5,v6,v7,e8]) H:=by
 intro xs
 induction xs with
 | nil=>intro u6 u7 _;exact⟨u6,u7,Fd (iV e0)⟩
 | cons x xs ih =>
  intro u6 u7 h
  obtain⟨kd,th,v,lk⟩:=h x UX
  obtain⟨l1,l2⟩:=EG T k H lk
  obtain⟨v6,v7,g⟩:=ih (fv x) (fv (.str (uA kd th v))) λy m=>h y (UZ _ m)
  refine⟨v6,v7,?_⟩
  have st:bc (gN 6) Qz (run pg (k+2)) x [fv z,e1,e2,e3,e4,e5,u6,u7,e8] H= .ok (.nx [fv z,e1,e2,e3,e4,e5,fv x,fv (.str (uA kd th v)),e8]) H:=by
   simp? [Qz,l1,l2,AR,eq_self]
  rw[Gy (iV e0),st,ck,bT,g]
theorem zD(k:Nat)(H:PH){P:Pg}(ok:P.Ok)(pn:zX P){a:List (Nat × PV × PV)}(ra:sS P a)(xs0:List PV)(e0 e1 e3 e5 e6:Option PV): ∀(ms:List Nat)(u7 u8:Option PV),∃ v7 v8:Option PV,
  bh ⟨UB,xs0⟩ (bc (gN 8) Oj (run pg (k+4))) (ms.map λi:Nat=>PV.int (0+(i:Int))) [e0,e1,fv P.v,e3,fv (.tup (a.map cW)),e5,e6,u7,u8] H= .ok (.nx [e0,e1,fv P.v,e3,fv (.tup (a.map cW)),e5,e6,v7,v8]) H:=by
 intro ms
 induction ms with
 | nil=>intro u7 u8;exact⟨u7,u8,eK⟩
 | cons i ms ih =>
  intro u7 u8
  have rt:sS P (a.take i):=⟨by rw[VT];have:=ra.1;omega,λz m=>ra.2 z (WT m)⟩
  have s1:=jI T k H ok pn rt
  have s2:=sL T (k+3) H pn rt
  have iz:(0:Int)+(i:Int)=(i:Int):=YJ _
  have cu:eW (a.map cW) UB (fv (i:Int))=(a.take i).map cW:=by rw[P3.nc (by omega),Ym];rfl
  obtain⟨v7,v8,g⟩:=ih (fv (.str (ue P (a.take i)))) (fv (.int i))
  refine⟨v7,v8,?_⟩
  have st:bc (gN 8) Oj (run pg (k+4)) (.int i) [e0,e1,fv P.v,e3,fv (.tup (a.map cW)),e5,e6,u7,u8] H= .ok (.nx [e0,e1,fv P.v,e3,fv (.tup (a.map cW)),e5,e6,fv (.str (ue P (a.take i))),fv (.int i)]) H:=by
   simp? [Oj,cu,s1,s2,AR,eq_self]
  rw[UP,dq,iz,st,ck,bT,g]
end
theorem BW: ∀ ns:List Int,ns.length<=63->Ok (run tb (room+1) "law" [.ref 0] [.jX (ns.map PV.int)]) λv _=>v= .bl true:=by
 intro ns _;have T:bD tb:=has;show Ok (run tb (16+1) "law" [.ref 0] [aC ns]) _;obtain⟨P,N,S,S',a,t1,ok,pn,W,N6,w,la,ew⟩:=BJ T 0 ns (0,0,0) [];have lk:=CP ok w (N:=N) (by omega) W;have ra:sS P a:=⟨by omega,λz m=>⟨(lk z m).1,(lk z m).2.1⟩⟩
 have wk:=zG T 1 [aC ns,aB t1] ok W (by omega) w
 let L:List PV:=a.map λz=>z.2.2
 have lc:ia ⟨UB,a.map Dg⟩ (aX 2 (gT 2 (aI (gN 9) (aI (gN 10) cZ))) aS (aa 10) (run tb 16) [fv (.ref 0),fv (.ref 1),fv P.v,fv (aH S),fv (.tup (a.map cW)),UB,UB,UB,UB]) (a.map Dg) [] [aC ns,aB t1]= .ok L [aC ns,aB t1]:=by
  refine OB (l:=a) (f:=λz=>z.2.2) (by omega) λz _=>?_;simp? [Dg]
 obtain⟨more,t2,km,qm,hm⟩:=Ou (fr:=aC ns) (J:=[.lst L]) (it:=⟨UB,ak 0 12⟩) (λ_=>rfl) (g:=λx:PV=>x) (f:=λz:PV × PV=>z.2) (key:=λz=>z.1) (Q:=λz=>MW z.2)
  (st:=aX 1 (gN 9) aS (ae "_law_look" (a2 (aa 1) (aa 2))) (run tb 16) [fv (.ref 0),fv (.ref 1),fv P.v,fv (aH S),fv (.tup (a.map cW)),fv (.ref 2),UB,UB,UB]) (ak 0 12) [] t1 (λx _ t=>by
   obtain⟨y,t',h1,h2⟩:=DN T 14 ns t [.lst L] pn;refine⟨(x,y),t',rfl,h1,?_⟩;simp? [h2]) (by simp[ak])
 rw[List.map_id',VJ] at hm
 let M:List PV:=more.map λz=>z.2
 have lm:more.length=12:=by
  have:=congrArg Yo km;rw[UE] at this;rw[this];rfl
 have hL: ∀ x∈L++M,MW x:=λx m=>by
  rcases V6.mp m with m | m
  . obtain⟨z,mz,rfl⟩:=Vg.mp m;exact(lk z mz).2.2
  . obtain⟨z,mz,rfl⟩:=Vg.mp m;exact qm z mz
 have lL:L.length+M.length<=16777216:=by simp only[L,M,UE,lm];omega
 let H:PH:=[aC ns,aB t2,.lst L,.lst M,.lst (L++M)]
 have ad:aL (.ref 2) (.ref 3) [aC ns,aB t2,.lst L,.lst M]= .ok (.ref 4) H:=rR (h:=[aC ns,aB t2,.lst L,.lst M]) (n:=2) (m:=3) rfl rfl lL;obtain⟨v6,v7,l1⟩:=vk T 14 (H:=H) (n:=4) (xs0:=L++M) rfl (fv (.ref 1)) (fv P.v) (fv (aH S)) (fv (.tup (a.map cW))) (fv (.ref 2)) UB (.ref 0) (L++M) UB UB hL;obtain⟨w7,w8,l2⟩:=zD T 12 H ok pn ra (ak 0 (a.length+1)) (fv (.ref 0)) (fv (.ref 1)) (fv (aH S)) (fv (.ref 2)) v6 (Vq (a.length+1)) v7 UB;have r0:sS P []:=⟨by simp,λz m=>by cases m⟩
 have sr:=jI T 12 H ok pn r0;have rt:ue P []=UI "-" :=rfl;rw[rt,VU] at sr;have tp:=D5 T 15 ns;have A:A0 (run tb 16) [fv (.ref 0),UB,UB,UB,UB,UB,UB,UB,UB] [aC ns]= .ok (.rt (.bl true)) H:=by
  show ag SH Sa _ _ _=_;refine(aO (e1:=[fv (.ref 0),fv (.ref 1),UB,UB,UB,UB,UB,UB,UB]) (h1:=[aC ns,aB (0,0,0)]) ?_).trans ?_
  . simp? [SH,tp]
  refine(aO (e1:=[fv (.ref 0),fv (.ref 1),fv P.v,fv (aH S),fv (.tup (a.map cW)),UB,UB,UB,UB]) (h1:=[aC ns,aB t1]) ?_).trans ?_
  . simp? [S7,ew]
  refine(aO (e1:=[fv (.ref 0),fv (.ref 1),fv P.v,fv (aH S),fv (.tup (a.map cW)),fv (.ref 2),UB,UB,UB]) (h1:=[aC ns,aB t1,.lst L]) ?_).trans ?_
  . simp? [Td,wk,lc]
  refine(aO (e1:=[fv (.ref 0),fv (.ref 1),fv P.v,fv (aH S),fv (.tup (a.map cW)),fv (.ref 2),v6,v7,UB]) (h1:=H) ?_).trans ?_
  . have r12:ak 0 (12:Int).toNat=ak 0 12:=rfl;have hm':ia ⟨UB,ak 0 12⟩ (aX 1 (gN 9) aS (ae "_law_look" (a2 (aa 1) (aa 2))) (run tb 16) [fv (.ref 0),fv (.ref 1),fv P.v,fv (aH S),fv (.tup (a.map cW)),fv (.ref 2),UB,UB,UB]) (ak 0 12) [] [aC ns,aB t1,.lst L]= .ok M [aC ns,aB t2,.lst L]:=hm;have it:my (ao aL (aa 5) (jf 1 (bf (a1 (eI 12))) (gN 9) aS (ae "_law_look" (a2 (aa 1) (aa 2))))) (run tb 16) [fv (.ref 0),fv (.ref 1),fv P.v,fv (aH S),fv (.tup (a.map cW)),fv (.ref 2),UB,UB,UB] [aC ns,aB t1,.lst L]= .ok ⟨fv 4,L++M⟩ H:=by
     have h4:H[4]?=fv (.lst (L++M)):=rfl
     clear_value H L M
     have ad':aL (.ref 2) (.ref (0+1+1+1)) [aC ns,aB t2,.lst L,.lst M]= .ok (.ref 4) H:=ad;simp? [r12,hm',ad',h4]
    show fZ _ (gN 6) Qz _ _ _=_;rw[qN,it,ck,mq];exact l1
  refine(aO (e1:=[fv (.ref 0),fv (.ref 1),fv P.v,fv (aH S),fv (.tup (a.map cW)),fv (.ref 2),v6,w7,w8]) (h1:=H) ?_).trans ?_
  . have tn:YO ((a.length:Int)+1)=a.length+1:=by omega
    have l2':bh ⟨UB,ak 0 (a.length+1)⟩ (bc (gN 8) Oj (run tb 16)) (ak 0 (a.length+1)) [fv (.ref 0),fv (.ref 1),fv P.v,fv (aH S),fv (.tup (a.map cW)),fv (.ref 2),v6,v7,UB] H=_:=l2;unfold Oj at l2'
    clear_value H
    simp? [Sy,UE,tn,l2']
  . clear_value H
    simp? [NH,Tu,sr,eq_self]
 rw[run_eq T.HC rfl];show Ok (fin _ (A0 (run tb 16) [fv (.ref 0),UB,UB,UB,UB,UB,UB,UB,UB] [aC ns])) _;rw[A,iK];unfold P3.settle;split<;>exact⟨_,_,rfl,rfl⟩
open PySem PySem.W PyProof.Rows
set_option maxHeartbeats 8000000
def cM(K:UC)(mg:Str->Option UH):List (String × Nat)->Prop
 | []=>True
 | (x,n)::l=>At K mg x (top n)/\cM K mg l
def Zs(K:UC):List Str->Prop
 | []=>True
 | x::l=>V4 K Vh x=fv UB/\Zs K l
theorem Zs.all{K:UC}{h:VO}{mg:Str->Option UH}(X:K.In h)(G:h.Ns Vh mg): ∀{l:List Str},Zs K l-> ∀ x∈l,mg x=UB
 | [],_=>by simp_all
 | _::_,z=>Vi.mpr ⟨PySem.W.mg_none_of X G z.1,Zs.all X G z.2⟩
theorem cM.go{P:Vl}{w:VE}{K:UC}{mg:Str->Option UH}{x:String}{n:Nat}{l:List (String × Nat)}{st:Z8}{N:List Str}{b:String × Df}{m:List (String × Df)}(g:bD tb->At K mg x (top n)->aN P w K mg tb b.1 b.2 st N)(A:cM K mg ((x,n)::l))(r:cM K mg l-> ∀ p∈m,∃ st N,aN P w K mg tb p.1 p.2 st N): ∀ p∈b::m,∃ st N,aN P w K mg tb p.1 p.2 st N:=Vi.mpr ⟨⟨_,_,g has A.1⟩,r A.2⟩
theorem all_mk{l:Yp}{w:VE}{K:UC}{h:VO}{mg:Str->Option UH}{fa:U0}(X:K.In h)(G:h.Ns Vh mg)(hfa:mg "law" =fv (.ref fa)){aQj aQg aQb aQh rQh0 rQh1 rQh2 rQh3 rQh4 rQh5 rQh6 rQh7 rQh8 rQh9 rQh10 rQh11 aQf aQc:U0}{nQj nQg nQb eQh nQhv0_ nQhv1_ nQhv2_ nQhv3_ nQhv4_ nQhv5_ nQhv6_ nQhv7_ nQhv8_ nQhv9_ nQhv10_ nQhv11_ eQf eQc:Nat}{sQj sQg sQb sQhv0_ sQhv1_ sQhv2_ sQhv3_ sQhv4_ sQhv5_ sQhv6_ sQhv7_ sQhv8_ sQhv9_ sQhv10_ sQhv11_:Array (Option UH)}{tQj0 tQj1 tQj2 tQj3 tQj4 tQk tQd tQg0 tQg1 tQg2 tQg3 tQg4 tQa tQi tQb0 tQb1 tQb2 tQe qQh0 qQh1 qQh2 qQh3 qQh4 qQh5 qQh6 qQh7 qQh8 qQh9 qQh10 qQh11 tQhv0_0 tQhv0_1 tQhv1_0 tQhv1_1 tQhv2_0 tQhv2_1 tQhv3_0 tQhv3_1 tQhv4_0 tQhv5_0 tQhv6_0 tQhv6_1 tQhv7_0 tQhv7_1 tQhv8_0 tQhv8_1 tQhv9_0 tQhv10_0 tQhv10_1 tQhv11_0 tQhv11_1 qQf0 qQf1 qQf2 qQf3 vQf0 vQf1 vQf2 vQf3 qQc0 qQc1 qQc2 qQc3 qQc4 qQc5 qQc6 vQc0 vQc1 vQc2 vQc3 vQc4 vQc5 vQc6:Tok}{dQhv0_ dQhv1_ dQhv2_ dQhv3_ dQhv4_ dQhv5_ dQhv6_ dQhv7_ dQhv8_ dQhv9_ dQhv10_ dQhv11_:Option U0}
  (A:cM K mg [("is_whole",1),("is_between",2),("is_value",3),("is_tuple_of",4),("worth",9),("joined_worth",10),("names_of",12),("number_of",13),("rows_of",14),("shown_number",20),("shown_look",22),("shown_run",23),("shown_parts",24),("shown_step",25),("hand_name",26),("first_seat",30),("rested",31),("is_rested",32),("is_own_row",33),("behind_own_row",34),("laid",35),("touch_of",36),("seat_behind",37),("may_come",38),("first_stand",43),("hands_of",44),("state_of",45),("wait_of",46),("waits",47),("can_go",48),("gone",52),("due_touch",53),("takes_gift",54),("meeting",55),("with_hand_on",56),("with_state",57),("replaced",58),("walked",61),("stepped",62),("_law_tape",64),("_law_draw",65),("_law_names",66),("_law_pocket",67),("_law_sum",68),("_law_at_box",69),("_law_by_lock",70),("_law_piece",71),("_law_rows",72),("_law_program",73),("_law_gift",74),("_law_run",75),("_law_world",76),("_law_word",77),("_law_look_text",78),("_law_run_text",79),("_law_look",80),("law",81)])
  (Z:Zs K gh)
  (wQj:V4 K Vh "SORTS" =fv (fv (.ref aQj))) (oQj:K.lookup aQj=fv ⟨.type "tuple",UB,.seq #[.str "box" tQj0,.str "lock" tQj1,.str "lane" tQj2,.str "door" tQj3,.str "hand" tQj4] nQj,sQj⟩)
  (wQk:V4 K Vh "WORTHS" =fv (fv (.int 1000 tQk)))
  (wQd:V4 K Vh "MOST_OWN_ROWS" =fv (fv (.int 200 tQd)))
  (wQg:V4 K Vh "POCKETING" =fv (fv (.ref aQg))) (oQg:K.lookup aQg=fv ⟨.type "tuple",UB,.seq #[.str "get" tQg0,.str "fetch" tQg1,.str "clock" tQg2,.str "lot" tQg3,.str "hear" tQg4] nQg,sQg⟩)
  (wQa:V4 K Vh "COUNTS" =fv (fv (.int 0 tQa)))
  (wQi:V4 K Vh "SEATS" =fv (fv (.int 1 tQi)))
  (wQb:V4 K Vh "GIFTED" =fv (fv (.ref aQb))) (oQb:K.lookup aQb=fv ⟨.type "tuple",UB,.seq #[.str "clock" tQb0,.str "lot" tQb1,.str "hear" tQb2] nQb,sQb⟩)
  (wQe:V4 K Vh "MOST_STEPS" =fv (fv (.int 60 tQe)))
  (oQhv0_:K.lookup rQh0=fv ⟨.type "tuple",dQhv0_,.seq #[.str "pocket" tQhv0_0,.str "sum" tQhv0_1] nQhv0_,sQhv0_⟩)
  (oQhv1_:K.lookup rQh1=fv ⟨.type "tuple",dQhv1_,.seq #[.str "target" tQhv1_0,.str "sum" tQhv1_1] nQhv1_,sQhv1_⟩)
  (oQhv2_:K.lookup rQh2=fv ⟨.type "tuple",dQhv2_,.seq #[.str "pocket" tQhv2_0,.str "box" tQhv2_1] nQhv2_,sQhv2_⟩)
  (oQhv3_:K.lookup rQh3=fv ⟨.type "tuple",dQhv3_,.seq #[.str "box" tQhv3_0,.str "sum" tQhv3_1] nQhv3_,sQhv3_⟩)
  (oQhv4_:K.lookup rQh4=fv ⟨.type "tuple",dQhv4_,.seq #[.str "lock" tQhv4_0] nQhv4_,sQhv4_⟩)
  (oQhv5_:K.lookup rQh5=fv ⟨.type "tuple",dQhv5_,.seq #[.str "lock" tQhv5_0] nQhv5_,sQhv5_⟩)
  (oQhv6_:K.lookup rQh6=fv ⟨.type "tuple",dQhv6_,.seq #[.str "lane" tQhv6_0,.str "sum" tQhv6_1] nQhv6_,sQhv6_⟩)
  (oQhv7_:K.lookup rQh7=fv ⟨.type "tuple",dQhv7_,.seq #[.str "pocket" tQhv7_0,.str "lane" tQhv7_1] nQhv7_,sQhv7_⟩)
  (oQhv8_:K.lookup rQh8=fv ⟨.type "tuple",dQhv8_,.seq #[.str "door" tQhv8_0,.str "sum" tQhv8_1] nQhv8_,sQhv8_⟩)
  (oQhv9_:K.lookup rQh9=fv ⟨.type "tuple",dQhv9_,.seq #[.str "pocket" tQhv9_0] nQhv9_,sQhv9_⟩)
  (oQhv10_:K.lookup rQh10=fv ⟨.type "tuple",dQhv10_,.seq #[.str "pocket" tQhv10_0,.str "chances" tQhv10_1] nQhv10_,sQhv10_⟩)
  (oQhv11_:K.lookup rQh11=fv ⟨.type "tuple",dQhv11_,.seq #[.str "pocket" tQhv11_0,.str "door" tQhv11_1] nQhv11_,sQhv11_⟩)
  (wQh:V4 K Vh "ROW_PARTS" =fv (fv (.ref aQh))) (oQh:K.lookup aQh=fv { cls:= .type "dict",data:= .dict #[{ hash:=Ve w.params "let",key:= .str "let" qQh0,val:= .ref rQh0},{ hash:=Ve w.params "leap",key:= .str "leap" qQh1,val:= .ref rQh1},{ hash:=Ve w.params "get",key:= .str "get" qQh2,val:= .ref rQh2},{ hash:=Ve w.params "put",key:= .str "put" qQh3,val:= .ref rQh3},{ hash:=Ve w.params "take",key:= .str "take" qQh4,val:= .ref rQh4},{ hash:=Ve w.params "free",key:= .str "free" qQh5,val:= .ref rQh5},{ hash:=Ve w.params "send",key:= .str "send" qQh6,val:= .ref rQh6},{ hash:=Ve w.params "fetch",key:= .str "fetch" qQh7,val:= .ref rQh7},{ hash:=Ve w.params "say",key:= .str "say" qQh8,val:= .ref rQh8},{ hash:=Ve w.params "clock",key:= .str "clock" qQh9,val:= .ref rQh9},{ hash:=Ve w.params "lot",key:= .str "lot" qQh10,val:= .ref rQh10},{ hash:=Ve w.params "hear",key:= .str "hear" qQh11,val:= .ref rQh11}] eQh}) (yQh:(aQh == VP)=false)
  (wQf:V4 K Vh "PLACE_OF" =fv (fv (.ref aQf))) (oQf:K.lookup aQf=fv { cls:= .type "dict",data:= .dict #[{ hash:=Ve w.params "box",key:= .str "box" qQf0,val:= .int 2 vQf0},{ hash:=Ve w.params "lock",key:= .str "lock" qQf1,val:= .int 3 vQf1},{ hash:=Ve w.params "lane",key:= .str "lane" qQf2,val:= .int 4 vQf2},{ hash:=Ve w.params "door",key:= .str "door" qQf3,val:= .int 5 vQf3}] eQf}) (yQf:(aQf == VP)=false)
  (wQc:V4 K Vh "MET_SORT" =fv (fv (.ref aQc))) (oQc:K.lookup aQc=fv { cls:= .type "dict",data:= .dict #[{ hash:=Ve w.params "get",key:= .str "get" qQc0,val:= .str "box" vQc0},{ hash:=Ve w.params "put",key:= .str "put" qQc1,val:= .str "box" vQc1},{ hash:=Ve w.params "take",key:= .str "take" qQc2,val:= .str "lock" vQc2},{ hash:=Ve w.params "free",key:= .str "free" qQc3,val:= .str "lock" vQc3},{ hash:=Ve w.params "send",key:= .str "send" qQc4,val:= .str "lane" vQc4},{ hash:=Ve w.params "fetch",key:= .str "fetch" qQc5,val:= .str "lane" vQc5},{ hash:=Ve w.params "say",key:= .str "say" qQc6,val:= .str "door" vQc6}] eQc}) (yQc:(aQc == VP)=false) :
  ∃ fd:XE,(∀(s:UM)(v:UH),ZL s fd ⟨[v],[]⟩ [("_law_script",v)])/\ ∀ base:VO,K.In base->base.Ns Vh mg->j4 l.prog w K mg base uQ (room+1) fa fd ["_law_script"] (vE K tb (room+1) "law"):=by
 have T:Top l.prog w K mg tb:=⟨Zs.all X G Z,Fg (conT:=conT) rfl (Vi.mpr ⟨sv (us:=[.str "box" tQj0,.str "lock" tQj1,.str "lane" tQj2,.str "door" tQj3,.str "hand" tQj4]) (V5 X G wQj) oQj (by show 5<=UK;decide) (.cons (.str _ _) (.cons (.str _ _) (.cons (.str _ _) (.cons (.str _ _) (.cons (.str _ _) .nil))))),(Vi.mpr ⟨m6 (V5 X G wQk) (.int _ _),(Vi.mpr ⟨m6 (V5 X G wQd) (.int _ _),(Vi.mpr ⟨sv (us:=[.str "get" tQg0,.str "fetch" tQg1,.str "clock" tQg2,.str "lot" tQg3,.str "hear" tQg4]) (V5 X G wQg) oQg (by show 5<=UK;decide) (.cons (.str _ _) (.cons (.str _ _) (.cons (.str _ _) (.cons (.str _ _) (.cons (.str _ _) .nil))))),(Vi.mpr ⟨m6 (V5 X G wQa) (.int _ _),(Vi.mpr ⟨m6 (V5 X G wQi) (.int _ _),(Vi.mpr ⟨sv (us:=[.str "clock" tQb0,.str "lot" tQb1,.str "hear" tQb2]) (V5 X G wQb) oQb (by show 3<=UK;decide) (.cons (.str _ _) (.cons (.str _ _) (.cons (.str _ _) .nil))),(Vi.mpr ⟨m6 (V5 X G wQe) (.int _ _),(by intro p m;cases m)⟩)⟩)⟩)⟩)⟩)⟩)⟩)⟩),GD (dcT:=dcT) rfl (Vi.mpr ⟨vN (ls:=[("let",qQh0,.ref rQh0),("leap",qQh1,.ref rQh1),("get",qQh2,.ref rQh2),("put",qQh3,.ref rQh3),("take",qQh4,.ref rQh4),("free",qQh5,.ref rQh5),("send",qQh6,.ref rQh6),("fetch",qQh7,.ref rQh7),("say",qQh8,.ref rQh8),("clock",qQh9,.ref rQh9),("lot",qQh10,.ref rQh10),("hear",qQh11,.ref rQh11)]) (V5 X G wQh) oQh yQh (show([.inr "let",.inr "leap",.inr "get",.inr "put",.inr "take",.inr "free",.inr "send",.inr "fetch",.inr "say",.inr "clock",.inr "lot",.inr "hear"]:List Key).Nodup by decide +kernel) (.cons ⟨rfl,dR (us:=[.str "pocket" tQhv0_0,.str "sum" tQhv0_1]) oQhv0_ (by show 2<=UK;decide) (.cons (.str _ _) (.cons (.str _ _) .nil))⟩ (.cons ⟨rfl,dR (us:=[.str "target" tQhv1_0,.str "sum" tQhv1_1]) oQhv1_ (by show 2<=UK;decide) (.cons (.str _ _) (.cons (.str _ _) .nil))⟩ (.cons ⟨rfl,dR (us:=[.str "pocket" tQhv2_0,.str "box" tQhv2_1]) oQhv2_ (by show 2<=UK;decide) (.cons (.str _ _) (.cons (.str _ _) .nil))⟩ (.cons ⟨rfl,dR (us:=[.str "box" tQhv3_0,.str "sum" tQhv3_1]) oQhv3_ (by show 2<=UK;decide) (.cons (.str _ _) (.cons (.str _ _) .nil))⟩ (.cons ⟨rfl,dR (us:=[.str "lock" tQhv4_0]) oQhv4_ (by show 1<=UK;decide) (.cons (.str _ _) .nil)⟩ (.cons ⟨rfl,dR (us:=[.str "lock" tQhv5_0]) oQhv5_ (by show 1<=UK;decide) (.cons (.str _ _) .nil)⟩ (.cons ⟨rfl,dR (us:=[.str "lane" tQhv6_0,.str "sum" tQhv6_1]) oQhv6_ (by show 2<=UK;decide) (.cons (.str _ _) (.cons (.str _ _) .nil))⟩ (.cons ⟨rfl,dR (us:=[.str "pocket" tQhv7_0,.str "lane" tQhv7_1]) oQhv7_ (by show 2<=UK;decide) (.cons (.str _ _) (.cons (.str _ _) .nil))⟩ (.cons ⟨rfl,dR (us:=[.str "door" tQhv8_0,.str "sum" tQhv8_1]) oQhv8_ (by show 2<=UK;decide) (.cons (.str _ _) (.cons (.str _ _) .nil))⟩ (.cons ⟨rfl,dR (us:=[.str "pocket" tQhv9_0]) oQhv9_ (by show 1<=UK;decide) (.cons (.str _ _) .nil)⟩ (.cons ⟨rfl,dR (us:=[.str "pocket" tQhv10_0,.str "chances" tQhv10_1]) oQhv10_ (by show 2<=UK;decide) (.cons (.str _ _) (.cons (.str _ _) .nil))⟩ (.cons ⟨rfl,dR (us:=[.str "pocket" tQhv11_0,.str "door" tQhv11_1]) oQhv11_ (by show 2<=UK;decide) (.cons (.str _ _) (.cons (.str _ _) .nil))⟩ .nil)))))))))))),(Vi.mpr ⟨vN (ls:=[("box",qQf0,.int 2 vQf0),("lock",qQf1,.int 3 vQf1),("lane",qQf2,.int 4 vQf2),("door",qQf3,.int 5 vQf3)]) (V5 X G wQf) oQf yQf (show([.inr "box",.inr "lock",.inr "lane",.inr "door"]:List Key).Nodup by decide +kernel) (.cons ⟨rfl,iH (.int _ _)⟩ (.cons ⟨rfl,iH (.int _ _)⟩ (.cons ⟨rfl,iH (.int _ _)⟩ (.cons ⟨rfl,iH (.int _ _)⟩ .nil)))),(Vi.mpr ⟨vN (ls:=[("get",qQc0,.str "box" vQc0),("put",qQc1,.str "box" vQc1),("take",qQc2,.str "lock" vQc2),("free",qQc3,.str "lock" vQc3),("send",qQc4,.str "lane" vQc4),("fetch",qQc5,.str "lane" vQc5),("say",qQc6,.str "door" vQc6)]) (V5 X G wQc) oQc yQc (show([.inr "get",.inr "put",.inr "take",.inr "free",.inr "send",.inr "fetch",.inr "say"]:List Key).Nodup by decide +kernel) (.cons ⟨rfl,iH (.str _ _)⟩ (.cons ⟨rfl,iH (.str _ _)⟩ (.cons ⟨rfl,iH (.str _ _)⟩ (.cons ⟨rfl,iH (.str _ _)⟩ (.cons ⟨rfl,iH (.str _ _)⟩ (.cons ⟨rfl,iH (.str _ _)⟩ (.cons ⟨rfl,iH (.str _ _)⟩ .nil))))))),(by intro p m;cases m)⟩)⟩)⟩)⟩
 refine HX T (AH (fnT:=fnT) rfl ?_) has.HC rfl (Hv has A.2.2.2.2.2.2.2.2.2.2.2.2.2.2.2.2.2.2.2.2.2.2.2.2.2.2.2.2.2.2.2.2.2.2.2.2.2.2.2.2.2.2.2.2.2.2.2.2.2.2.2.2.2.2.2.2.1) hfa;exact cM.go vK A λA=>cM.go qX A λA=>cM.go vi A λA=>cM.go pj A λA=>cM.go El A λA=>cM.go nU A λA=>cM.go wZ A λA=>cM.go uW A λA=>cM.go yR A λA=>cM.go nS A λA=>cM.go rC A λA=>cM.go sX A λA=>cM.go pb A λA=>cM.go rK A λA=>cM.go tj A λA=>cM.go sd A λA=>cM.go Aw A λA=>cM.go sF A λA=>cM.go qK A λA=>cM.go kS A λA=>cM.go Jc A λA=>cM.go wA A λA=>cM.go pA A λA=>cM.go w5 A λA=>cM.go oU A λA=>cM.go vJ A λA=>cM.go wY A λA=>cM.go zp A λA=>cM.go DD A λA=>cM.go B3 A λA=>cM.go LF A λA=>cM.go uc A λA=>cM.go rG A λA=>cM.go yO A λA=>cM.go ox A λA=>cM.go rV A λA=>cM.go wg A λA=>cM.go BU A λA=>cM.go zC A λA=>cM.go tL A λA=>cM.go sR A λA=>cM.go rl A λA=>cM.go o8 A λA=>cM.go wq A λA=>cM.go oZ A λA=>cM.go oC A λA=>cM.go q8 A λA=>cM.go uT A λA=>cM.go nO A λA=>cM.go ua A λA=>cM.go wO A λA=>cM.go qV A λA=>cM.go uY A λA=>cM.go ll A λA=>cM.go l9 A λA=>cM.go uZ A λA=>cM.go Hv A λ_ p m=>nomatch m
theorem walk{l:Yp}{q:Vl}{loose:List Str}{XP:(Str->Option UH)->VO->Prop}{YP:VE->VO->Prop}{d:DefRec}{K:Params->UC}(hn:l.most=fv 63)(hdf:d.params.defaults=[])
  (hY: ∀(w:VE)(h:VO),YP w h->(K w.params).In h)
  (F: ∀(w:VE)(mg:Str->Option UH)(fa:U0)(h:VO),(K w.params).In h->h.Ns Vh mg->mg d.name=fv (.ref fa) ->
   ∃ fd:XE,(∀(s:UM)(u:UH),ZL s fd ⟨[u],[]⟩ [("_law_script",u)])/\ ∀ base:VO,(K w.params).In base->base.Ns Vh mg->j4 l.prog w (K w.params) mg base uQ (room+1) fa fd ["_law_script"] (vE (K w.params) tb (room+1) "law")) :
  abS q loose XP YP l.row.toRowW d [] (λf vs=>abX f vs) :=
 L2.Es (n:=63) (k:=room+1) (x:= "_law_script") (CX:=λ_=>uQ) (sp:=λw=>vE (K w.params) tb (room+1) "law") hn (by decide) hdf ⟨rfl,by decide,by decide,rfl⟩ hY F (λ_ H a ns hl hO hS=>K3 BW H a ns hl hO hS) λ_ _ _ _ _ z=>z
end K84
open PySem PySem.W PyProof.Rows
set_option maxRecDepth 100000 in
set_option maxHeartbeats 0 in
theorem PySem.Challenge.cw_leastrecord_k84_looks_and_runs_as_texts_holds : PySem.Challenge.rw_leastrecord_k84_looks_and_runs_as_texts.Holds := by
 w_on;o_law;k_head;(case hw=>w_witness2)
 k_fill
 refine K84.walk (l:=PySem.Challenge.rw_leastrecord_k84_looks_and_runs_as_texts) rfl rfl (λw h Y=>PySem.W.kIn_of Y) ?F
 case F =>
  intro w mg fa h KX G hmg
  refine' K84.all_mk KX G hmg ?A ?Z ?_ ?_ ?_ ?_ ?_ ?_ ?_ ?_ ?_ ?_ ?_ ?_ ?_ ?_ ?_ ?_ ?_ ?_ ?_ ?_ ?_ ?_ ?_ ?_ ?_ ?_ ?_ ?_ ?_ ?_ ?_ ?_
  case' A=>repeat' first | exact trivial | refine' ZA (L2.OF KX G ?_ ?_ ?_ ?_) ?_
  case' Z=>repeat' first | exact trivial | refine' ZA ?_ ?_
  all_goals try k_is
  all_goals try k_is
  all_goals exact rfl
end
end
end
