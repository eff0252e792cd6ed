import PyProof.Rows.All
import Wide.All
import OpenK.AllK
import Wide.FinOn
import Lean
import PyProof.EqAt
import PyProof.EqKinds
import PyProof.TupleCall
import KE.KDictSum
import PyProof.AttrMissHeap
import PyProof.WalksMore
import KE.LcSums
import PyProof.AutoListH
import PyProof.ListMulRoad
import KE.KSortTup
import PyProof.ZipIter
import PyProof.Draws
import PyProof.EnumFor
import PyProof.ReprRoads
import PyProof.ListRange
import PyProof.ListNew
import PySem.Challenge.RW_leastrecord_k26_histories
open Option renaming some->Wv,none->Wx,getD_some->W9,map_some->YW,isSome_iff_exists->Z9,guard->aaG,isSome_map->abC,isSome_some->adw,getD_none->ad4
open PySem renaming wpAny_bind->Ww,Value->WC,wpAny_pure->WI,sizeLine->WJ,Shared->WK,Addr->W2,wpAny->W3,model->W8,compareOp->Xh,mainGlobals->Xn,starEach->Xp,Program->Xy,wpAny_mono->XE,Expr->XH,foldedSetIterable->XM,wpAny_field->XO,wpAny_holding->XQ,wpAny_callSpecial?_slot->XU,Paired->XZ,World->X0,assignEach->X6,Heap->X8,sysModules->X9,wpAny_seqItems->Ya,bootBuiltins->Yc,wpAny_call_entry->Yd,binaryOp->Yg,wpAny_newObj_type->Yi,Around->Yk,behindInMarks->Yl,wpAny_ite_split->Ys,eval->Yu,wpAny_truthy_bool->Yx,wpAny_pyIter_tuple->YL,wpAny_setField_rec->YO,call_meets->YV,compEnvC->YX,wpAny_passesOwn->Y8,attributeBase->Zf,mem_of_lookup->Zi,wpAny_Call_Name_kw->Zr,wpAny_typeOf->Zt,tupleKind_room_in1->Zu,Builtin->Zx,codeAny_builtin->ZD,swapsWith->ZH,cellsFrom->ZI,wpAny_load->ZO,PyData->ZP,cLine->ZV,FuncData->Z7,bindArgs->Z8,ZipApart->aad,wpAny_execs_nil->aag,wpAny_specialOf->aai,IsPair->aal,sliceBounds->aaq,backTo->aat,holding->aau,wpAny_nextOf_list_item->aaD,getItem->aaQ,codeAny->aaR,wpAny_newList->aaS,wpAny_onRaise->aaT,NameKind->aaU,wpAny_updateSeq_pair->aaY,assign->aa1,wpAny_updateSeq->aa3,field->aa7,wpAny_rule->abm,wpAny_binaryOp_repeat_ref->abw,Scope->aby,subscripted->abA,swapsWithSole->abH,swappedStores->abI,wpAny_comprehension_free->abM,plainId_quiet->abN,wpAny_attempt->abR,tupleKind->abY,PassesOwn->abZ,noFill_tuple_add->ab1,pushCells->ab4,wpAny_isInstance->ab9,wpAny_pyIter_zip->acd,BindsTo->acf,IsPart->acg,typeLookup->ach,typeIs_int->acj,wpAny_Call_method_late->ack,valueAt->acn,letOwnedTupleGo->acw,pushCells_keeps->acy,Stmt->acC,wpAny_isTrue_Compare1->acD,wpAny_notOrdered_dict->acF,wpAny_nextOf_list_end->acH,pyNext->acL,wpAny_letTemporaryGo->acN,newFunctionEnv->acO,callType_codes->acQ,wpAny_newTuple->acW,wpAny_letGo->acY,Keyword->ac4,callerA->ac5,wpAny_standAt->adi,seq_tuple_add->adj,pyIter->adp,typeIs_str->adt,PlainAttrs->adv,setItem->adD,codeAny_mono->adF,concat_meets->adG,seqIndex_neg->adH,isTrue->adZ,rawInt->ad0,seqSlot_of->ad6,updateSeq->ad9,seqIndex_of->aee,keywordEach->aef,atKey->aeg,Meets->aei,IsZip->aek,standAt->aer,call->aex,Fin->aeC,Within->aeD,KeysOf->aeH
open List renaming length_map->Wy,getElem?_eq_some_iff->WA,getElem?_eq_getElem->WD,length_cons->WE,map_cons->WH,mem_of_getElem?->WL,mem_cons->WM,replicate->WO,length_append->WR,getElem?_map->WT,append_assoc->WV,mem_cons_self->WW,mem_cons_of_mem->WY,size_toArray->WZ,not_mem_nil->W4,length_set->Xa,map_nil->Xc,mem_append_right->Xd,getElem?_append_right->Xe,length_nil->Xf,range->Xj,mem_map->Xk,map_append->Xl,filter_cons_of_pos->Xm,getElem?_set_self->Xo,mem_singleton->Xq,append_nil->Xr,forall_mem_cons->Xs,getElem?_append_left->Xu,length_take->Xz,map_map->XB,filter_cons_of_neg->XC,getElem?_cons_succ->XD,nil_append->XF,mem_or_eq_of_mem_set->XG,mem_append->XJ,getElem?_set_ne->XS,getD_eq_getElem?_getD->XW,getElem?_eq_none_iff->X3,drop_eq_nil_of_le->Ye,cons_append->Yf,drop_eq_getElem_cons->Yh,getElem?_eq_none->Yj,forIn_cons->Yr,any_cons->Yv,take_of_length_le->YB,mem_filter->YG,length_drop->YJ,getElem_mem->YM,mem_range->YR,lookup_cons->Y3,length_filter_le->Y5,nodup_cons->Y9,filterMap_cons_none->Zg,filterMap_cons_some->Zh,getElem?_replicate->Zl,pairwise_mergeSort->Zn,of_mem_zip->Zz,nodup_append->ZM,mem_append_left->ZN,mem_of_mem_drop->ZQ,all_eq_true->ZU,mem_of_find?_eq_some->ZY,map_congr_left->ZZ,mergeSort_perm->Z6,all_cons->aab,filterMap_eq_filter->aaf,set_cons_zero->aam,zip_cons_cons->aao,pairwise_map->aaA,length_range->aaC,filterMap_eq_map'->aaF,length_singleton->aaH,eq_nil_of_length_eq_zero->aaZ,mem_of_mem_take->aa0,headD_cons->aa4,filterMap_cons->aa5,replicate_succ->aa6,filter_sublist->aa8,idxOf_lt_length_of_mem->abg,pairwise_cons->abp,map_filterMap->abv,getElem?_inj->abE,getElem?_set->abG,map_take->abW,map_drop->abX,pairwise_singleton->ab8,take_length->acb,not_of_lt_findIdx->acu,find?_some->acA,length_zip->acB,length_replicate->acE,set_getElem_self->acI,drop_zero->acT,set_append_left->acZ,getElem?_range->adb,length_pos_iff->adf,getElem_of_mem->adg,mem_filterMap->adq,getElem?_take->adz,getElem_idxOf->adB,flatten_cons->adI,ext_getElem?->adU,map_set->adX,zip_nil_left->adY,any_eq_true->aea,length->aed,range'->ael,find?_cons->aen,foldl->aew,tail_cons->aez,map->aeL
open PySem.W renaming Frag->Wz,kia_one->Yb,fnOf->Ym,nsIn->Yo,mg_of->Yp,emptyDict->Yy,instObj->Y7,keepIn->Zk,kas_sort->ZE,findIn->aav,cellsFrom_some->aax,OpenLaw->aaW,kia_tup->abb,kitOne->abi,kitx_list->abJ,kitx_dict->abK,codeIn->acm,lookIn->acM,kitAny->acX,specialIn->adE,plainGet->ad3,WalkO->aet,kitx_float->aeu,kitx_tuple->aev,isFn->aeF
open PySem.Heap renaming get?_push_of_some->WB,lt_size->WN,get?_push_size->WS,size_push->XT,push->Yt,get?_update_other->Yz,get?_update_self->YH,get?_none_of_le->YS,get?_push_ne->aaB,size_update->aaO,SameBut->aa9,get?_update_ne->ac8
open Nat renaming le_refl->WG,lt_of_lt_of_le->WQ,ne_of_lt->W7,le_trans->Xb,lt_irrefl->Xt,zero_le->Xv,ne_of_gt->Yq,le_of_lt->YY,lt_or_ge->Y0,lt_succ_of_lt->Zb,le_succ_of_le->Zd,lt_succ_self->ZS,lt_trans->ZT,min_eq_left->aaj,min_le_right->aaM,min_eq_right->aaN,not_lt_zero->aa2,lt_of_le_of_lt->abl,lt_of_lt_of_eq->abn,le_succ->abB,succ_le_succ->ab2,add_sub_cancel_left->aca,le_total->acq,lt_of_succ_lt_succ->acs,ble->ac6,not_lt->adx,add_comm->adJ,mul_comm->adK,lt_succ_of_le->adL,sub_zero->adR,add_zero->adV
open PySem.Str renaming ofString->WU,ofString_eq_toList->acr
open Bool renaming and_eq_true->WX,false_ne_true->W5,not_eq_true'->YC,false_eq_true->Zv,or_eq_true->ZC,and_true->ZJ,and_self->aac,eq_iff_iff->aah,false_and->acP,and_eq_true_iff->acR,true_and->adl,and_false->aeA
open PySem.Value renaming ref->W6,none->YI,type->YT,int->ZR,str->aaK,bool->aaL,float->aec,isStrOf->aeB
open PySem.PyData renaming keyHash->Xg,canLayAll0->YE,list->Zp,depthAll->ZF,leavesShort->aan,strOk->aaE,leavesShortAll->aaJ,str->aaP,tuple->abf,eqv->abo,int->abt,showableAll->abu,hasDictAll->abF,shown_fits_bulk->acv,bulkAll->ac1,canLay0->ac2,depth->adW,bulk->aem,showable->aeq
open PySem.Builtin.SmallTypes renaming nextOf->Xi,ownedTupleIsFree->XY,ownedTupleHandOut->ada
open Array renaming getD_eq_getD_getElem?->Xw,getElem?_eq_getElem->XR,length_toList->YF,getElem?_toList->ZK,append_assoc->ado,forIn_toList->adC,toList_push->adM,toList_inj->ad7,toList->aeE
open Option.some renaming inj->Xx,injEq->Zc
open Int renaming toNat_natCast->XA,eq_ofNat_of_zero_le->XX,emod_nonneg->ZG,zero_add->abd,emod_lt_of_pos->abr,toNat->ace,toNat_of_nonneg->ade,natCast_mul->aep
open PyProof.Rows renaming callWith_type1->XI,slot_tuple_getitem->XN,seqObj->Zw,StrsAre->aba,isStrOf->abc,envOfC->abj,AllBare->abz,sortedS->abD,listUpdate_at->abQ,subscriptTail_builtinR->aci,sortedHeap->acp,entry_list_sort->acz,slot_list_sort->acJ,args_list_sort->acK,entry_tuple_getitem->ac7,Constant_none->adh,sortedAll_old->adk,args_tuple_getitem->ads,plain_sorted->adN,entry_sorted->adO,args_sorted1->adP,sortedAll_at->adQ,SortKind->adS,listItems_at->adT,sortedAll->ad8,kind_sorted->aeh,seqEpoch_at->aej,IntsAre->aes
open PySem.Obj renaming mapSeq->X4,data_mapFields->ady
open PySem.AutoSeq1 renaming wpAny_loadPart'->X5
open PySem.F renaming slot_zip_next->X7,slot_tuple_iterator_next->YD,slot_tuple_mul->YZ,args_zip_next_1->Zm,entry_zip_next->Zy,args_tuple_add_2->aaa,args_tuple_mul_2->aae,args_tuple_iterator_next_1->aak,entry_tuple_add->aap,entry_tuple_mul->aar,entry_tuple_iterator_next->aas,slot_tuple_add->aay,slot_dict_get->aaI,slot_dict_getitem->abx,slot_str_eq_refl->abP,plainAttrs_tuple->abS,slot_tuple_index->abT,type_tuple_index->abU,args_dict_get_3->ab3,slot_tuple_rmul->ab7,entry_dict_get->aco,slot_int_rmul->acG,sub_str_dict->acU,slot_dict_eq->acV
open PySem.Builtin.Tuple renaming tupleExact->Yn,tupleItemsOf->abk,tupleTooMany->abq
open Sum renaming inr->YQ,inl->ac3
open False renaming elim->YU
open PySem.NameKind renaming free->Y1,cell->Y2
open True renaming intro->Y4
open PySem.Builtin.Slice renaming slicePlaces->Y6,sliceAdjust->ZW
open Ne renaming symm->Za
open PySem.Paired renaming length->Ze,snoc->aeK
open PySem.Builtin.Str renaming occurrences->Zj
open List.Nodup renaming length_le_of_subset->Zo
open PySem.Calls renaming spliced_cons->Zq,call_function_entry->ZX,spliced_nil->aaw,callWith_builtin->aaz,evalArgs_plain->aaV,Name_function_global->abh
open ForInStep renaming yield->ZA
open PySem.Builtin.List renaming listExtendWith->ZL,listLengthHint->abe,listTooLong->abL,listSameRef->abV
open PySem.Around renaming under_plainId->aaX
open PySem.Builtin.Dict renaming selfAndRest->abO,updateFrom->ab6
open PySem.Builtin.Range renaming rangeSize->ab0
open And renaming intro->ab5
open PySem.Heap.DictOf renaming new->acx
open Or renaming inr->acS,inl->ad5
open Std.Legacy.Range renaming forIn_eq_forIn_range'->ac0,size->aeI
open PySem.Heap.SameBut renaming update->ac9
open PySem.SeqAt.EqAt renaming int_str->adm,str_int->adn,str_str->adu
open Char renaming toNat->adA
open Sum.inr renaming inj->aeb
open List.cons renaming injEq->aeo
open List.Perm renaming refl->aey
open Exists renaming intro->aeG
open PySem.IsRange renaming new->aeJ
open PySem.Heap.IsSliceOf renaming new->aeM
set_option genSizeOf false
set_option compiler.extract_closed false
set_option bootstrap.genMatcherCode false
namespace PySem.W.Fast
def tw9326157330736753639:=0
def tw14188323671211220789:=0
def tw14191380233290678215:=0
def tw5461418715508166243:=0
def tw1780040232960442988:=0
def tw10799794068721216416:=0
def tw10946429491722328272:=0
def tw13317253618417926441:=0
def tw13908430386370254649:=0
def tw2893049206061858117:=0
def tw9451464600851427223:=0
def tw602101831763502513:=0
def tw10618905559525855786:=0
def tw4051693586265261355:=0
def tw13583056913566521609:=0
def tw12898050288793230006:=0
def tw3899190818339698924:=0
def tw1258904988433625894:=0
def tw14388329166544001717:=0
def tw5304111114592523662:=0
def tw6587950222389953955:=0
def tw7225538164301555591:=0
def tw2348054402781263986:=0
def tw17018656503739567310:=0
def tw14167675275573481975:=0
def tw9315945406730392127:=0
def tw1690220555422130152:=0
def tw4810265608462238843:=0
def tw9110070882341905290:=0
def tw13042773832836964747:=0
def tw5996258562450510153:=0
def tw14247351762667949818:=0
def tw13059246498115192352:=0
def tw2422979870058859027:=0
def tw12005244873829198594:=0
def tw6797014931818722155:=0
def tw1306609786178211026:=0
def tw13446377321713081757:=0
def tw10428148110048738935:=0
def tw12229532315333746108:=0
def tw584134029286768016:=0
def tw17626196724719426562:=0
def tw3132221880266458848:=0
def tw15688915993859331698:=0
def tw2560922852417284406:=0
def tw9870239992274013941:=0
def tw2439143336319625565:=0
def tw5948711059753296552:=0
def tw14645014356780797512:=0
def tw14912778009829023479:=0
def tw7083314709167151608:=0
def tw17226583231878850857:=0
def tw8196306528546045523:=0
def tw8449284030905829849:=0
def tw5408982304731993004:=0
def tw12592861879208674334:=0
def tw13837194040130313003:=0
def tw5606690913920198023:=0
def tw15588999676147025571:=0
def tw13761726526238107677:=0
def tw17121083979007832758:=0
def tw6208531152122131898:=0
def tw5381018064298143746:=0
def tw18259932750095752759:=0
def tw174303773591594456:=0
def tw7327293075910318038:=0
def tw10368593492309521522:=0
def tw10538160173737972833:=0
def tw14480353630159764816:=0
def tw10887871366807004953:=0
def tw12465263682313677020:=0
def tw8227272155428734599:=0
def tw16144437768222996072:=0
def tw6511638853942808821:=0
def tw18335664347708932023:=0
def tw5706751570696390748:=0
def tw3231217500218534414:=0
def tw8387024282839855898:=0
def tw16504003180757595077:=0
def tw4299621408242659474:=0
def tw10274228637494997698:=0
def tw12041267791945521722:=0
def tw13651059963523693615:=0
def tw7100048492952244029:=0
def tw71637168612756812:=0
def tw2868986111524148903:=0
def tw2264694932322607709:=0
def tw526067818215096758:=0
def tw7875773573584060252:=0
def tw14804058528043300279:=0
def tw14748735293463500169:=0
def tw4670868936644518327:=0
def tw5379322508997661436:=0
def tw5592951217870766298:=0
def tw5387821039415121863:=0
def tw12686399692527613604:=0
def tw7337819240627345681:=0
def tw10045641168662682219:=0
def tw1649402936317318601:=0
def tw10647697007078950301:=0
def tw10900968621560961738:=0
def tw7297150677613026243:=0
def tw5437135570585760363:=0
def tw17271559134868298272:=0
def tw5100915286920820437:=0
def tw12489032700070671667:=0
def tw10854587797510004420:=0
def tw8596460129911107909:=0
def tw13725456283098526334:=0
def tw763370743808840219:=0
def tw12344960618894589076:=0
def tw18272738746155069268:=0
def tw3247650249544979493:=0
def tw9913487905937874775:=0
def tw1248396305835578243:=0
def tw6101280111868324732:=0
def tw14122295571027234649:=0
def tw6393636432004357503:=0
def tw6937374382432594027:=0
def tw275058545875586741:=0
def tw17253761966494482740:=0
def tw6701738582977675543:=0
def tw5063445635669530689:=0
def tw7619370817216326603:=0
def tw3059372943158125806:=0
def tw3354694504741670810:=0
def tw12428456247185994424:=0
def tw9313378985630403455:=0
def tw15341476004961731887:=0
def tw3442581826241375405:=0
def tw16391960301711127939:=0
def tw4807774944872211580:=0
def tw5058274151304872256:=0
def tw10703031236988310644:=0
def tw2935450976243201138:=0
def tw10244610139186331232:=0
def tw7242944504561919035:=0
def tw16981829577977711426:=0
def tw16700880350778457621:=0
def tw3448332308944650030:=0
def tw1961670336334971352:=0
def tw17657327358059597215:=0
def tw10586255228390258629:=0
def tw10062748534722197388:=0
def tw10816036035539386685:=0
def tw17352152339681618841:=0
def tw2981459721002324668:=0
def tw9439170532396966694:=0
def tw277192615669670364:=0
def tw3292949472179953944:=0
def tw4516071113033331119:=0
def tw15889832508881023178:=0
def tw14506798588783755528:=0
def tw16672069759036427124:=0
def tw6370772344314510518:=0
def tw18134602245811543463:=0
def tw11550817881195905447:=0
def tw12803850936963546580:=0
def tw16614114592004030383:=0
def tw3531732244422414179:=0
def tw10264357984203549062:=0
def tw9162776217199818242:=0
def tw15601349911624962238:=0
def tw10103023799199153047:=0
def tw3816062212537412591:=0
def tw3167452182655108104:=0
def tw16825858036462897085:=0
def tw12457896964955872803:=0
def tw6694281723974610553:=0
def tw15076090396255601979:=0
def tw16855151757882200672:=0
def tw3191634803385956075:=0
def tw16830798849478292850:=0
def tw12145684687625480013:=0
def tw4112478910553091418:=0
def tw14123472041566309590:=0
def tw2463504506120883253:=0
def tw4263008790242949916:=0
def tw8720779151194171553:=0
def tw5162073700619442532:=0
def tw5283858019471433724:=0
def tw12574589721837069038:=0
def tw2060810533274936667:=0
def tw8344720421585202435:=0
def tw7130648914117125497:=0
def tw4814170952921039837:=0
def tw18271395861839849299:=0
def tw9976072049637026145:=0
def tw12984879384428418082:=0
def tw17815570429013425954:=0
def tw13860510233373798548:=0
def tw2813684158898588070:=0
def tw15227461482381440450:=0
def tw9715112394859320324:=0
def tw5192076698563938282:=0
def tw18020544054647175889:=0
def tw15270542190500114655:=0
def tw9823072815498936057:=0
def tw3363277508578498811:=0
def tw12347415119235254913:=0
def tw6423872510184888459:=0
def tw16788842979748916691:=0
def tw8069500803819596592:=0
def tw10798740512151512253:=0
def tw16572800967261447739:=0
def tw16691860366467927012:=0
def tw17939079444280392016:=0
def tw4170158846266483916:=0
def tw15489275579973237232:=0
def tw2467920396152447441:=0
def tw1423425903952650947:=0
def tw4177309681336861187:=0
def tw11675179752255462690:=0
def tw1598638074955271202:=0
def tw14401247560226746258:=0
def tw10093868900954701140:=0
def tw10390437761672538874:=0
def tw11958690116242042743:=0
def tw4551307819558014646:=0
def tw3032383375361813255:=0
def tw8360942429430797174:=0
def tw8388767686282288369:=0
def tw12332302053673815344:=0
def tw1073726149232645375:=0
def tw11884301375893242935:=0
def tw10450542286198870722:=0
def tw16779342721001961947:=0
def tw17812334137318531637:=0
def tw9091966802093915147:=0
def tw4198703933823521825:=0
def tw18259506622268472827:=0
def tw4231609480968139933:=0
def tw17121272859689321397:=0
def tw9594278098886293826:=0
def tw13322829608225008605:=0
def tw13476479079381597475:=0
def tw13960870545564653187:=0
def tw14450052042790613308:=0
def tw17818374755816801664:=0
def tw6329798746931541217:=0
def tw1868299619902035653:=0
def tw3801753336345330382:=0
def tw3335692106934212529:=0
def tw15091624230643642163:=0
def tw1915361391939988790:=0
def tw12623529416904081706:=0
def tw15331874687748414163:=0
def tw8670453921506297871:=0
def tw3342006904624020518:=0
def tw16387375392476779878:=0
def tw18438188353908012970:=0
def tw7801191378875384049:=0
def tw14030581735866991743:=0
def tw5104329283686176140:=0
def tw12962554547568730210:=0
def tw12004797635082227364:=0
def tw5075526680088518469:=0
def tw16746850012019169366:=0
def tw16694976107128090074:=0
def tw18354654192542859123:=0
def tw14274581532359201477:=0
def tw5331354748326702122:=0
def tw12657699028068545101:=0
def tw11892824494784620835:=0
def tw1450749790578076004:=0
def tw8761092761011382309:=0
def tw14602140292858322455:=0
def tw18230852614129037768:=0
def tw11397390374423277851:=0
def tw6730079796534114783:=0
def tw12198103458800580412:=0
def tw5802272896302617325:=0
def tw12909636337534841260:=0
def tw16815307358723649545:=0
def tw16449287563708599746:=0
def tw1183069072782565868:=0
def tw17464466483119453191:=0
def tw16770217690400020640:=0
def tw17494081226146709825:=0
def tw9986658494486669886:=0
def tw14012199744364181811:=0
def tw13883151228545013329:=0
def tw18254780438651157678:=0
def tw13632133727914450469:=0
def tw8226611712691370143:=0
def tw9416066237842035003:=0
def tw9402909856285159744:=0
def tw10648894936227830006:=0
def tw18230240385736328880:=0
def tw3382641077468458320:=0
def tw10975171046600149139:=0
def tw12496975474402454404:=0
def tw16471838405168128402:=0
def tw18122195942263259171:=0
def tw5950898832097163035:=0
def tw11443192165949992757:=0
def tw2783413166787054371:=0
def tw6466956160361306179:=0
end PySem.W.Fast
noncomputable section
set_option Elab.async false
set_option linter.all false
set_option maxRecDepth 100000
section
namespace L2
open PySem PySem.Spec PyProof.Rows
abbrev Key:=Sum Int Str
noncomputable def pZ:Key->WC->Bool
 | .inl k,v=>Value.isInt k v
 | .inr x,v=>aeB x v
noncomputable def UR(w:X0):Key->Int
 | .inl k=>hashInt k
 | .inr x=>hashStr w x
theorem bI: ∀{k v},pZ k v=true->(∃ i t,k=ac3 i/\v=ZR i t)\/(∃ x t,k=YQ x/\v=aaK x t)
 | .inl i,v,h=>by
  obtain⟨t,e⟩:=Value.isInt_shape (k:=i) (v:=v) h;exact .inl ⟨i,t,rfl,e⟩
 | .inr x,v,h=>by
  obtain⟨t,e⟩:=Value.isStrOf_shape (x:=x) (v:=v) h;exact .inr ⟨x,t,rfl,e⟩
theorem Cj i t:pZ (.inl i) (.int i t)=true:=by simp[pZ,Value.isInt]
theorem nH x t:pZ (.inr x) (.str x t)=true:=by simp[pZ,aeB]
theorem OC a b:decide ((ac3 a:Key)=ac3 b)=(a == b):=by
 by_cases e:a=b
 . subst e;simp
 . have h: ¬ (ac3 a:Key)=ac3 b:=λq=>e (Sum.inl.inj q);rw[decide_eq_false h];exact(beq_eq_false_iff_ne.mpr e).symm
theorem Ma a b:decide ((YQ a:Key)=YQ b)=decide (a=b):=by
 by_cases e:a=b
 . simp
 . have h: ¬ (YQ a:Key)=YQ b:=λq=>e (aeb q);rw[decide_eq_false h,decide_eq_false e]
theorem Pn(a:Int)(b:Str):decide ((ac3 a)=YQ b)=false:=decide_eq_false (λq=>by cases q)
theorem L1(a:Str)(b:Int):decide ((YQ a)=ac3 b)=false:=decide_eq_false (λq=>by cases q)
def aI prog w:PySem.KeyKind prog w Key where
 is:=pZ
 hash:=UR w
 inj:=λv a b ha hb=>by
  rcases bI ha with⟨i,t,rfl,rfl⟩ | ⟨x,t,rfl,rfl⟩
  . rcases bI hb with⟨j,u,rfl,e⟩ | ⟨y,u,rfl,e⟩
    . injection e with e1 _;rw[e1]
    . nomatch e
  . rcases bI hb with⟨j,u,rfl,e⟩ | ⟨y,u,rfl,e⟩
    . nomatch e
    . injection e with e1 _;rw[e1]
 byValue:=λk v h=>by
  rcases bI h with⟨i,t,rfl,rfl⟩ | ⟨x,t,rfl,rfl⟩<;>rfl
 pyHash:=λhv h=>by
  rcases bI hv with⟨i,t,rfl,rfl⟩ | ⟨x,t,rfl,rfl⟩
  . exact wpAny_pyHash_int h
  . exact wpAny_pyHash_str h
 eqBool:=λhu hv h=>by
  rcases bI hu with⟨i,t,rfl,rfl⟩ | ⟨x,t,rfl,rfl⟩
  . rcases bI hv with⟨j,u,rfl,rfl⟩ | ⟨y,u,rfl,rfl⟩
    . rw[OC] at h;exact wpAny_eqBool_int h
    . rw[Pn] at h;exact adm i t y u _ _ _ _ h
  . rcases bI hv with⟨j,u,rfl,rfl⟩ | ⟨y,u,rfl,rfl⟩
    . rw[L1] at h;exact adn x t j u _ _ _ _ h
    . rw[Ma] at h;exact wpAny_eqBool_str h
 «strs» :=λk x t v h=>by
  rcases bI h with⟨i,u,rfl,e⟩ | ⟨y,u,rfl,e⟩
  . nomatch e
  . injection e with e1 _;subst e1;cases v<;>rfl
theorem wg prog w i t:(aI prog w).is (.inl i) (.int i t)=true:=Cj i t
theorem xr prog w x t:(aI prog w).is (.inr x) (.str x t)=true:=nH x t
inductive V where
 | non | bl (b:Bool) | int (i:Int) | str (x:Str) | byt (b:Array UInt8) | flt (b:UInt64) | ref (a:W2) | ty (n:String)
 deriving DecidableEq
def RelV:V->WC->Prop
 | .non,u=>u=YI
 | .bl b,u=>u=aaL b
 | .int i,u=> ∃ t,u=ZR i t
 | .str x,u=> ∃ t,u=aaK x t
 | .byt b,u=> ∃ t,u=Value.bytes b t
 | .flt b,u=> ∃ t,u=aec b t
 | .ref a,u=>u=W6 a
 | .ty n,u=>u=YT n
abbrev Vals:List V->List WC->Prop:=XZ RelV
theorem Vals.length(r:Vals xs us):xs.length=us.length:=Ze r
theorem Vals.get: ∀{xs us}{i:Nat}{x},Vals xs us->xs[i]?=Wv x-> ∃ u,us[i]?=Wv u/\RelV x u
 | _,_,_,_,.nil,e=>by simp at e
 | _,_,0,_,.cons r _,e=>by simp at e;subst e;exact⟨_,rfl,r⟩
 | _,_,i+1,x,.cons _ t,e=>by
  obtain⟨u,h1,h2⟩:=Vals.get (i:=i) (x:=x) t (by simpa using e);exact⟨u,by simpa using h1,h2⟩
theorem Vals.set(r:RelV x u): ∀{xs us} i,Vals xs us->Vals (xs.set i x) (us.set i u)
 | _,_,_,.nil=> .nil
 | _,_,0,.cons _ t=> .cons r t
 | _,_,i+1,.cons q t=> .cons q (Vals.set r i t)
theorem Vals.append: ∀{xs ys us ws},Vals xs us->Vals ys ws->Vals (xs++ys) (us++ws)
 | _,_,_,_,.nil,s=>s
 | _,_,_,_,.cons r t,s=> .cons r (Vals.append t s)
theorem Vals.take: ∀{xs us} n,Vals xs us->Vals (xs.take n) (us.take n)
 | _,_,0,_=> .nil
 | _,_,_+1,.nil=> .nil
 | _,_,n+1,.cons r t=> .cons r (Vals.take n t)
theorem Vals.drop: ∀{xs us} n,Vals xs us->Vals (xs.drop n) (us.drop n)
 | _,_,0,r=>r
 | _,_,_+1,.nil=> .nil
 | _,_,n+1,.cons _ t=>Vals.drop n t
def mJ:Option V->Option WC->Prop
 | some v,Wv u=>RelV v u
 | none,Wx=>True
 | _,_=>False
def KV{κ}:=XZ λ(p: κ × V) (q: κ × WC)=>p.1=q.1/\RelV p.2 q.2
noncomputable def kV:Key->V
 | .inl i=> .int i
 | .inr x=> .str x
inductive HO where
  | lst (xs:List V)
  | tup (xs:List V)
  | dK (kvs:List (Key × V)) | dT (kvs:List (List Key × V))
  | set (S:Int->Bool) (n:Nat)
  | ins (C dx:W2) (fs:List (Str × V))
  | own (x:W2)
  | xd (fs:List (Str × V))
  | met (f x:W2)
  | vF (lo hi:Int)
  | kU (o:Obj) (u:HO)
  | tbl (ps:Array WC)
  | ext (φ :X8->Prop)
abbrev Hp:=W2->Option HO
noncomputable def upd(H:Hp)(a:W2)(o:HO):Hp:=λb=>if b=a then Wv o else H b
theorem aX:upd H a o a=Wv o:=by unfold upd;rw[if_pos rfl]
theorem ax(h:b≠a):upd H a o b=H b:=by unfold upd;rw[if_neg h]
theorem sW{H:Hp}{a b:W2}{o u:HO}(h:H a=Wv o)(h':H b=Wv u)(d:o≠u):a≠b:=by
 intro e;subst e;rw[h] at h';exact d (Xx h')
theorem av{H:Hp}{a b:W2}{o:HO}(h:H a=Wv o)(h':H b=Wx):a≠b:=by
 intro e;subst e;rw[h] at h';cases h'
def rG(h:X8) a (items:Array WC):= ∃ o,h.get? a=Wv o/\o.cls= .type "tuple" /\ ∃ n,o.data= .seq items n/\o.dict=Wx
theorem rG.tup{h a items}(x:rG h a items):IsTup h a items:=by obtain⟨o,e,c,n,d,_⟩:=x;exact⟨o,e,c,n,d⟩
theorem rG.new(h:X8) items:rG (h.push { cls:= .type "tuple",data:= .seq items}) h.objs.size items:=⟨_,WS _ rfl,rfl,_,rfl,rfl⟩
section
variable(P:Xy)(w:X0)
def aW(H:Hp)(h:X8)(a:W2):HO->Prop
 | .lst xs=>xs.length<=WJ/\ ∃(ak:List WC)(n:Nat),Vals xs ak/\h.get? a=Wv { cls:= .type "list",data:= .seq ak.toArray n}
 | .tup xs=>xs.length<=WJ/\ ∃ ak ,Vals xs ak/\rG h a ak.toArray
 | .dK kvs=>kvs.length<=WJ/\(a == X9)=false/\ ∃ vs,KV kvs vs/\h.DictOf (aI P w) a vs
 | .dT kvs=>kvs.length<=WJ/\(a == X9)=false/\ ∃ xs ,
   XZ (λ(p) (q)=>p.1=q.1/\H q.2.1=Wv (.tup (p.1.map kV))/\RelV p.2 q.2.2) kvs xs /\
   ∃ o es ep,h.get? a=Wv o/\o.ExactDict/\o.data= .dict es ep/\es.toList=xs.map (entryOfKey (abY (aI P w)))/\(xs.map (·.1)).Nodup
 | .set S n=>h.SetOf (intKind P w) a S n
 | .ins C dx fs=>H dx=Wv (.own a)/\fs.length<=1000/\dx≠a/\h.get? a=Wv (Y7 C dx) /\
   ∃ mA,h.Ns1 dx mA/\(∀ f,mJ (fs.lookup f) (mA f))/\aeD mA (fs.map (·.1))
 | .own _=> ∃ o,h.get? a=Wv o
 | .xd fs=> ∃ mA,h.Ns1 a mA/\ ∀ f,mJ (fs.lookup f) (mA f)
 | .vF lo hi=> ∃ t u v,h.get? a=Wv { cls:= .type "range",data:= .fields #[.int lo t,.int hi u,.int 1 v]}
 | .kU o u=>h.get? a=Wv o∧aW H h a u
 | .tbl ps=>h.get? a=Wv { cls:= .none,data:= .fields ps}
 | .met f x=>h.get? a=Wv (PySem.W.methodObj (.ref f) (.ref x))
 | .ext φ => φ h∧(∃ o,h.get? a=Wv o)∧ ∀ h1 h2 , φ h1->(∀ o,h1.get? a=Wv o->h2.get? a=Wv o)-> φ h2
def kf H h:= ∀ a o,H a=Wv o->aW P w H h a o
end
section
variable{P:Xy}{w:X0}{H H':Hp}{h h':X8}{a:W2}{o:HO}
theorem aW.lt(x:aW P w H h a o):a < h.objs.size:=by
 cases o with
 | lst xs=>obtain⟨_,_,_,_,e⟩:=x;exact WN e
 | tup xs=>obtain⟨_,_,_,p⟩:=x;exact p.tup.lt
 | dK kvs=>obtain⟨_,_,_,_,o,_,_,e,_⟩:=x;exact WN e
 | dT kvs=>obtain⟨_,_,_,_,o,_,_,e,_⟩:=x;exact WN e
 | set S n=>obtain⟨o,_,_,_,e,_⟩:=x;exact WN e
 | ins C dx fs=>obtain⟨_,_,_,e,_⟩:=x;exact WN e
 | own y=>obtain⟨_,e⟩:=x;exact WN e
 | xd fs=>obtain⟨_,⟨_,_,_,e,_⟩,_⟩:=x;exact WN e
 | vF lo hi=>obtain⟨_,_,_,e⟩:=x;exact WN e
 | kU ob u=>obtain⟨e,_⟩:=x;exact WN e
 | tbl ps=>exact WN (show h.get? a=Wv _ from x)
 | met f y=>exact WN (show h.get? a=Wv _ from x)
 | ext φ =>obtain⟨_,⟨_,e⟩,_⟩:=x;exact WN e
theorem Paired.BG: ∀{l₁ l₂},XZ F l₁ l₂ ->(∀ a b,F a b->G a b)->XZ G l₁ l₂
 | _,_,.nil,_=> .nil
 | _,_,.cons r t,f=> .cons (f _ _ r) (Paired.BG t f)
theorem aW.rV(x:aW P w H h a o)(k: ∀ b u,(b=a\/H b=Wv (.own a))->h.get? b=Wv u->h'.get? b=Wv u)
  (ho: ∀ b,H b=Wv (.own a)->H' b=Wv (.own a)) (ht: ∀ b xs,H b=Wv (.tup xs)->H' b=Wv (.tup xs)):aW P w H' h' a o:=by
 induction o with
 | lst xs=>obtain⟨z,ak,n,r,e⟩:=x;exact⟨z,ak,n,r,k _ _ (.inl rfl) e⟩
 | tup xs=>obtain⟨z,ak,r,ob,e,c⟩:=x;exact⟨z,ak,r,ob,k _ _ (.inl rfl) e,c⟩
 | dK kvs=>obtain⟨z,y,vs,r,ob,es,ep,e,c⟩:=x;exact⟨z,y,vs,r,ob,es,ep,k _ _ (.inl rfl) e,c⟩
 | dT kvs =>
  obtain⟨z,y,xs,r,ob,es,ep,e,c⟩:=x
  exact⟨z,y,xs,Paired.BG r λp q z=>⟨z.1,ht _ _ z.2.1,z.2.2⟩,ob,es,ep,k _ _ (.inl rfl) e,c⟩
 | set S n=>obtain⟨ob,es,ep,t,e,c⟩:=x;exact⟨ob,es,ep,t,k _ _ (.inl rfl) e,c⟩
 | ins C dx fs =>
  obtain⟨d,z,ne,e,mA,⟨od,es,ep,e2,c⟩,r⟩:=x
  exact⟨ho _ d,z,ne,k _ _ (.inl rfl) e,mA,⟨od,es,ep,k _ _ (.inr d) e2,c⟩,r⟩
 | own y=>obtain⟨ob,e⟩:=x;exact⟨ob,k _ _ (.inl rfl) e⟩
 | xd fs=>obtain⟨mA,⟨od,es,ep,e,c⟩,r⟩:=x;exact⟨mA,⟨od,es,ep,k _ _ (.inl rfl) e,c⟩,r⟩
 | vF lo hi=>obtain⟨t,u,v,e⟩:=x;exact⟨t,u,v,k _ _ (.inl rfl) e⟩
 | kU ob u ih=>obtain⟨e,q⟩:=x;exact⟨k _ _ (.inl rfl) e,ih q⟩
 | tbl ps =>
  have e:=x
  exact k a _ (.inl rfl) e
 | met f y =>
  have e:=x
  exact k a _ (.inl rfl) e
 | ext φ =>obtain⟨p,⟨o,e⟩,st⟩:=x;exact⟨st _ _ p λo q=>k _ _ (.inl rfl) q,⟨o,k _ _ (.inl rfl) e⟩,st⟩
theorem kf.lt(x:kf P w H h)(e:H a=Wv o):a < h.objs.size:=(x a o e).lt
theorem kf.fresh(x:kf P w H h)(e:h.objs.size<=a):H a=Wx:=by
 cases q:H a with
 | none=>rfl
 | some u=>exact absurd (WQ (x.lt q) e) (Xt _)
theorem kf.kept(x:kf P w H h)(k: ∀ b u,h.get? b=Wv u->h'.get? b=Wv u):kf P w H h':=λa o e =>
 (x a o e).rV (λb u _ q=>k b u q) (λ_ q=>q) λ_ _ q=>q
theorem kf.laid(x:kf P w H h)(k: ∀ b u,h.get? b=Wv u->h'.get? b=Wv u)(hp:h.objs.size<=a)(new:aW P w (upd H a o) h' a o):kf P w (upd H a o) h':=λb u e=>by
 have hn:=x.fresh hp;by_cases hb:b=a
 . subst hb;rw[aX] at e;cases e;exact new
 . rw[ax hb] at e;exact(x b u e).rV (λc v _ q=>k c v q) (λc q=>by rw[ax (av q hn)];exact q) λc xs q=>by rw[ax (av q hn)];exact q
end
def Rd(H:Hp) a u:=H a=Wv u\/ ∃ o,H a=Wv (.kU o u)
theorem Rd.ok(r:Rd H a u)(x:kf P w H h):aW P w H h a u:=by
 rcases r with r | ⟨o,r⟩
 . exact x a u r
 . obtain⟨_,q⟩:=x a _ r;exact q
def Q9:Option HO->Prop
 | some (.lst _)=>True
 | some (.dK _)=>True
 | some (.dT _)=>True
 | some (.set _ _)=>True
 | some (.ins _ _ _)=>True
 | some (.ext _)=>True
 | _=>False
section
variable{P:Xy}{w:X0}{H:Hp}{h h':X8}{x e:W2}{o':HO}
theorem kf.write(ok:kf P w H h)(mu:Q9 (H x))(he:e=x\/H e=Wv (.own x))(k: ∀ b u,b≠e->h.get? b=Wv u->h'.get? b=Wv u)(heo: ∃ u,h'.get? e=Wv u)
  (new:aW P w (upd H x o') h' x o'):kf P w (upd H x o') h':=λb u q=>by
 have nown: ∀ c y,H c=Wv (.own y)->c≠x:=λc y r z=>by subst z;rw[r] at mu;exact mu
 have ntup: ∀ c xs,H c=Wv (.tup xs)->c≠x:=λc xs r z=>by subst z;rw[r] at mu;exact mu
 by_cases hb:b=x
 . subst hb;rw[aX] at q;cases q;exact new
 . rw[ax hb] at q;by_cases hbe:b=e
   . have q':H b=Wv (.own x):=by
      rcases he with z | z
      . exact absurd (hbe.trans z) hb
      . rw[hbe];exact z
     rw[q] at q';cases q';obtain⟨v,hv⟩:=heo;exact⟨v,by rw[hbe];exact hv⟩
   . refine(ok b u q).rV (λc v hc r=>k c v ?_ r) (λc r=>by rw[ax (nown c b r)];exact r) λc xs r=>by rw[ax (ntup c xs r)];exact r
     rcases hc with rfl | hc
     . exact hbe
     . rintro rfl;rcases he with z | z
       . exact nown c b hc z
       . rw[hc] at z;cases z;exact hb rfl
end
structure Un(fs ex:List W2)(H H':Hp)(h h':X8):Prop where
 keep: ∀ b o,h.get? b=Wv o->H b=Wx->b ∉ fs->b ∉ ex->h'.get? b=Wv o
 slot: ∀ b o,h.get? b=Wv o->H b=Wx->b∈fs->b ∉ ex-> ∃ sl,h'.get? b=Wv { o with slots:=sl}
 free: ∀ b o,h.get? b=Wv o->H b=Wx->b ∉ ex->H' b=Wx
 there: ∀ b o,h.get? b=Wv o->b ∉ ex-> ∃ o',h'.get? b=Wv o'
 mV: ∀ b xs,H b=Wv (.tup xs)->H' b=Wv (.tup xs)
 l9: ∀ b o u,H b=Wv (.kU o u)->H' b=Wv (.kU o u)
 oG: ∀ b ps,H b=Wv (.tbl ps)-> ∃ more,H' b=Wv (.tbl (ps++more))
section
variable{fs fs' ex ex':List W2}{H H1 H2:Hp}{h h1 h2 h':X8}{a x e:W2}{o:HO}
theorem Un.any(u:Un fs ex H H1 h h1)(q:h.get? b=Wv ob)(n:H b=Wx)(hx:b ∉ ex): ∃ sl,h1.get? b=Wv { ob with slots:=sl}:=by
 by_cases hb:b∈fs
 . exact u.slot b ob q n hb hx
 . exact⟨ob.slots,u.keep b ob q n hb hx⟩
theorem Un.trans(a:Un fs ex H H1 h h1)(b:Un fs ex H1 H2 h1 h2):Un fs ex H H2 h h2 where
 keep:=λc ob q n hc hx=>b.keep c ob (a.keep c ob q n hc hx) (a.free c ob q n hx) hc hx
 slot:=λc ob q n hc hx=>by
  obtain⟨sl,e1⟩:=a.slot c ob q n hc hx;obtain⟨sl',e2⟩:=b.slot c _ e1 (a.free c ob q n hx) hc hx;exact⟨sl',e2⟩
 free:=λc ob q n hx=>by
  obtain⟨o',e1⟩:=a.there c ob q hx;exact b.free c o' e1 (a.free c ob q n hx) hx
 there:=λc ob q hx=>by
  obtain⟨o',e1⟩:=a.there c ob q hx;exact b.there c o' e1 hx
 mV:=λc xs q=>b.mV c xs (a.mV c xs q)
 l9:=λc ob xs q=>b.l9 c ob xs (a.l9 c ob xs q)
 oG:=λc ps q=>by
  obtain⟨m1,e1⟩:=a.oG c ps q;obtain⟨m2,e2⟩:=b.oG c _ e1;exact⟨m1++m2,by rw[e2,ado]⟩
theorem Un.kept(k: ∀ b u,h.get? b=Wv u->h'.get? b=Wv u):Un fs ex H H h h' :=
 ⟨λb ob q _ _ _=>k b ob q,λb ob q _ _ _=>⟨ob.slots,k b ob q⟩,λ_ _ _ n _=>n,λb ob q _=>⟨ob,k b ob q⟩,λ_ _ q=>q,λ_ _ _ q=>q,λ_ ps q=>⟨#[],by rw[q];simp⟩⟩
theorem Un.refl:Un fs ex H H h h:=Un.kept λ_ _ q=>q
theorem Un.laid(k: ∀ b u,h.get? b=Wv u->h'.get? b=Wv u)(hp:h.objs.size<=a)(hn:H a=Wx):Un fs ex H (upd H a o) h h' where
 keep:=λb u q _ _ _=>k b u q
 slot:=λb u q _ _ _=>⟨u.slots,k b u q⟩
 free:=λb u q n _=>by rw[ax (W7 (WQ (WN q) hp))];exact n
 there:=λb u q _=>⟨u,k b u q⟩
 mV:=λb xs q=>by rw[ax (av q hn)];exact q
 l9:=λb u xs q=>by rw[ax (av q hn)];exact q
 oG:=λb ps q=>⟨#[],by rw[ax (av q hn),q];simp⟩
theorem Un.write(mu:Q9 (H x))(he:e=x\/H e=Wv (.own x))(k: ∀ b u,b≠e->h.get? b=Wv u->h'.get? b=Wv u)(heo: ∃ u,h'.get? e=Wv u):Un fs ex H (upd H x o) h h':=by
 have hx: ∀ b,H b=Wx->b≠x:=λb n z=>by subst z;rw[n] at mu;exact mu
 have hb: ∀ b,H b=Wx->b≠e:=λb n z=>by
  subst z;rcases he with r | r
  . exact hx b n r
  . rw[n] at r;cases r
 have hm: ∀ b u,H b=Wv u-> ¬ Q9 (Wv u)->b≠x:=λb u q nm z=>by subst z;rw[q] at mu;exact nm mu
 refine⟨λb u q n _ _=>k b u (hb b n) q,λb u q n _ _=>⟨u.slots,k b u (hb b n) q⟩,λb u q n _=>by rw[ax (hx b n)];exact n,λb u q _=>?_,
  λb xs q=>by rw[ax (hm b _ q λz=>z)];exact q,λb u xs q=>by rw[ax (hm b _ q λz=>z)];exact q,λb ps q=>⟨#[],by rw[ax (hm b _ q λz=>z),q];simp⟩⟩
 by_cases hbe:b=e
 . subst hbe;exact heo
 . exact⟨u,k b u hbe q⟩
end
noncomputable def Uw(h:X8)(H:Hp):=(Xj h.objs.size).filter λa=>(H a).isSome
def wF h H:=PySem.W.hideAll h (Uw h H)
theorem Cb h H:(wF h H).objs.size=h.objs.size:=PySem.W.hideAll_size _ _
theorem Fq{h:X8}{H:Hp}{b:W2}{o:Obj}(e:h.get? b=Wv o)(n:H b=Wx):(wF h H).get? b=Wv o :=
 PySem.W.hideAll_get _ e λhm=>by
  have q:=(YG.mp hm).2;rw[n] at q;simp at q
theorem J3(e:(wF h H).get? b=Wv o):h.get? b=Wv o/\H b=Wx:=by
 have e':=PySem.W.of_hideAll (Uw h H) e;refine⟨e',?_⟩;cases q:H b with
 | none=>rfl
 | some x =>
  have hm:b∈Uw h H:=YG.mpr ⟨YR.mpr (WN e'),by simp[q]⟩
  have z:(wF h H).get? b=Wx:=PySem.W.hideAll_none (Uw h H) hm
  rw[z] at e;cases e
noncomputable def J8(g h:X8) L:=(Xj h.objs.size).filterMap λa=>if a=L\/(g.get? a).isSome=true then Wx else(h.get? a).map λo=>(a,o)
def rest g h L d:=(J8 g h L).filter λp=>decide (p.1≠d)
structure Mod(K:Wz)(mg:Str->Option WC)(base:X8):Prop where
 Vp:K.In base
 glob:base.Ns Xn mg
 blt: ∃ mb,base.Ns builtinsNs mb/\ ∀ x:Str,x≠ "__name__" ->mb x=Yc x
 nolimit:base.NoLimit
structure Cx where
 prog:Xy
 w:X0
 K:Wz
 mg:Str->Option WC
 base:X8
 A:Yk
 N:List Str
 s₀ :WK
 H₀ :Hp
 env:Env
 outer:List Env
 stack:List Env
 ex:List W2
 fn:Str->Bool
 calm:Bool
 pn:List (W2 × Obj)
 xe:WC->WK->Prop
noncomputable def CQ(l:List Env):=l.filterMap (·.frame)
abbrev Cx.fs(X:Cx):List W2:=CQ X.outer
def Qg(sc:aby) x:=sc.names.lookup x=Wv .local\/sc.names.lookup x=Wv .cell\/sc.names.lookup x=Wv .free
def Loc(sc:aby) x:=sc.names.lookup x=Wv .local\/sc.names.lookup x=Wv .cell
def Look(env:Env)(h:X8)(m:Str->Option WC) x (u:WC) :=
 (env.kindOf x=Wv .local/\m x=Wv u)\/((env.kindOf x=Wv .cell\/env.kindOf x=Wv .free)/\ ∃ c,env.cells.lookup x=Wv c/\h.IsCell c (Wv u))
structure Cx.Ok(X:Cx):Prop where
 mod:Mod X.K X.mg X.base
 kind:X.env.scope.kind= .function
 glob:X.env.globals=Xn
 blt:X.env.builtins=builtinsNs
 above:X.s₀.heap.objs.size<=X.env.locals
 inj: ∀ x y c,X.env.cells.lookup x=Wv c->X.env.cells.lookup y=Wv c->x=y
 has: ∀ x,(X.env.kindOf x=Wv .cell\/X.env.kindOf x=Wv .free)-> ∃ c,X.env.cells.lookup x=Wv c
 Qb: ∀ x c,X.fn x=true->X.env.cells.lookup x=Wv c->X.s₀.heap.objs.size<=c
 hd:X.calm=true->X.A.handled=Wx
 frames:X.A.frames=Wv X.stack
 Ss:X.stack=X.outer\/(X.stack=X.env::X.outer/\X.env.frame=Wv X.env.locals)
 UA: ∀ b∈X.ex,b≠X.env.locals/\ ∀ x c,X.env.cells.lookup x=Wv c->c≠b
 bs: ∀ b o,X.base.get? b=Wv o->X.s₀.heap.get? b=Wv o/\X.H₀ b=Wx
 Gh:X.base.objs.size<=X.s₀.heap.objs.size
 Bf: ∀ b o,X.base.get? b=Wv o->b ∉ X.ex
 Du: ∀ b∈X.ex,b ∉ X.fs
 mS:X.s₀.heap.FunFrames X.base X.outer
 KO: ∀ b∈X.fs,X.H₀ b=Wx
structure Inv(X:Cx)(pins:List (W2 × Obj))(σ :List (Option V))(H:Hp)(s:WK):Prop where
 ok:X.Ok
 os:s.os=X.s₀.os
 bare:abz s.gens
 base:Un X.fs X.ex X.H₀ H X.s₀.heap s.heap
 loc: ∃ m,s.heap.Ns X.env.locals m/\ ∀(i:Nat)(x:Str)(v:V),X.N[i]?=Wv x-> σ[i]?=Wv (Wv v)->Qg X.env.scope x-> ∃ u,RelV v u/\Look X.env s.heap m x u
 cell: ∀ x c,X.env.cells.lookup x=Wv c-> ∃ v,s.heap.IsCell c v
 free:H X.env.locals=Wx
 jv: ∀ x c,X.env.cells.lookup x=Wv c->H c=Wx
 pin: ∀ p∈X.pn++pins,s.heap.get? p.1=Wv p.2/\H p.1=Wx/\p.1≠X.env.locals/\p.1 ∉ X.fs/\ ∀ v,p.2.data≠ .cell v
 bA:kf X.prog X.w H s.heap
 len: σ.length=X.N.length
section
variable{X:Cx}{pins:List (W2 × Obj)}{σ :List (Option V)}{H H':Hp}{s:WK}{h':X8}
theorem Cx.Ok.U0(ok:X.Ok)(e:X.base.get? b=Wv o):b ∉ X.fs:=λhb=>by
 have:=(ok.mS.mem hb).1;rw[e] at this;cases this
theorem Inv.bs(I:Inv X pins σ H s): ∀ b o,X.base.get? b=Wv o->s.heap.get? b=Wv o/\H b=Wx:=λb o e =>
 ⟨I.base.keep b o (I.ok.bs b o e).1 (I.ok.bs b o e).2 (I.ok.U0 e) (I.ok.Bf b o e),I.base.free b o (I.ok.bs b o e).1 (I.ok.bs b o e).2 (I.ok.Bf b o e)⟩
theorem Inv.bk(I:Inv X pins σ H s): ∀ b o,X.base.get? b=Wv o->s.heap.get? b=Wv o:=λb o e=>(I.bs b o e).1
theorem Inv.mod(I:Inv X pins σ H s):Mod X.K X.mg X.base:=I.ok.mod
theorem Inv.kL(I:Inv X pins σ H s):X.K.In s.heap:=I.ok.mod.Vp.keeps I.bk
theorem Inv.nolimit(I:Inv X pins σ H s):s.heap.NoLimit:=I.ok.mod.nolimit.keeps I.bk
theorem Inv.fr(I:Inv X pins σ H s): ∃ m,Fr X.base X.env.locals s.heap m :=
 by obtain⟨m,hn,_⟩:=I.loc;exact⟨m,hn,I.bk,Xb I.ok.Gh I.ok.above⟩
theorem Inv.lt(I:Inv X pins σ H s):X.env.locals < s.heap.objs.size:=by obtain⟨_,hn,_⟩:=I.loc;exact hn.lt
theorem Inv.sz(I:Inv X pins σ H s):X.s₀.heap.objs.size<=s.heap.objs.size:=Xb I.ok.above (YY I.lt)
theorem Inv.Q8(I:Inv X pins σ H s){a:W2}(h:s.heap.objs.size<=a):a ∉ X.fs:=λhb=>by
 obtain⟨_,o,ho,_⟩:=I.ok.mS.mem hb;exact absurd (WQ (WN ho) (Xb I.sz h)) (Xt _)
theorem Inv.NI(I:Inv X pins σ H s): ∀ x c,X.env.cells.lookup x=Wv c->c≠X.env.locals:=λx c e z=>by
 obtain⟨v,o,ho,hd⟩:=I.cell x c e;obtain⟨m,⟨o',es,ep,ho',hd',_⟩,_⟩:=I.loc;rw[z,ho'] at ho;cases ho;rw[hd'] at hd;cases hd
theorem Inv.mS(I:Inv X pins σ H s):s.heap.FunFrames X.base X.outer:=by
 have all: ∀ l,(∀ b∈CQ l,b∈X.fs)->X.s₀.heap.FunFrames X.base l->s.heap.FunFrames X.base l:=by
  intro l
  induction l with
  | nil=>intro _ _;trivial
  | cons env r ih =>
   intro hs hl
   obtain⟨hk,⟨L,o,hf,hn,ho,hd⟩,hr⟩:=hl
   have hL:=hs L (by unfold CQ;rw[aa5,hf];exact WW)
   obtain⟨sl,e⟩:=I.base.slot L o ho (I.ok.KO L hL) hL λz=>I.ok.Du L z hL
   exact⟨hk,⟨L,_,hf,hn,e,hd⟩,ih (λb hb=>hs b (by unfold CQ;rw[aa5,hf];exact WY _ hb)) hr⟩
 exact all X.outer (λ_ hb=>hb) I.ok.mS
theorem Inv.stack(I:Inv X pins σ H s):s.heap.FunFrames X.base X.stack:=by
 rcases I.ok.Ss with e | ⟨e,hf⟩
 . rw[e];exact I.mS
 . rw[e];obtain⟨m,hn,_⟩:=I.loc;refine .cons (by rw[I.ok.kind];decide) hf hn ?_ I.mS;exact YS (Xb I.ok.Gh I.ok.above)
theorem Inv.nP(I:Inv X pins σ H s): ∀ b∈CQ X.stack,b∈X.env.locals::X.fs:=λb hb=>by
 rcases I.ok.Ss with e | ⟨e,hf⟩
 . rw[e] at hb;exact WY _ hb
 . rw[e] at hb;unfold CQ at hb;rw[aa5,hf] at hb;exact hb
theorem Inv.AS(I:Inv X pins σ H s): ∀ b∈CQ X.stack,H b=Wx:=λb hb=>by
 rcases WM.mp (I.nP b hb) with e | hb
 . rw[e];exact I.free
 . obtain⟨_,o,ho,_⟩:=I.ok.mS.mem hb;exact I.base.free b o ho (I.ok.KO b hb) λz=>I.ok.Du b z hb
theorem Inv.step{ch:List W2}(I:Inv X pins σ H s)
  (hch: ∀ b∈ch,(b∈X.ex\/X.s₀.heap.objs.size<=b)/\b≠X.env.locals/\(∀ x c,X.env.cells.lookup x=Wv c->c≠b)/\ ∀ p∈X.pn++pins,p.1≠b)
  (keep: ∀ b o,b≠X.env.locals->b ∉ X.fs->b ∉ ch->s.heap.get? b=Wv o->H b=Wx->h'.get? b=Wv o)
  (slot: ∀ b o,b≠X.env.locals->b∈X.fs->b ∉ ch->s.heap.get? b=Wv o->H b=Wx-> ∃ sl,h'.get? b=Wv { o with slots:=sl}) (free: ∀ b o,b ∉ ch->s.heap.get? b=Wv o->H b=Wx->H' b=Wx)
  (there: ∀ b o,b ∉ ch->s.heap.get? b=Wv o-> ∃ o',h'.get? b=Wv o')
  (mV: ∀ b xs,H b=Wv (.tup xs)->H' b=Wv (.tup xs)) (l9: ∀ b o u,H b=Wv (.kU o u)->H' b=Wv (.kU o u)) (oG: ∀ b ps,H b=Wv (.tbl ps)-> ∃ more,H' b=Wv (.tbl (ps++more)))
  (ns: ∀ m,s.heap.Ns X.env.locals m->h'.Ns X.env.locals m) (bA:kf X.prog X.w H' h') (hg:abz g') :
  Inv X pins σ H' { s with heap:=h',gens:=g',drawn:=d',toks:=t'}:=by
 have neL: ∀ b o,X.s₀.heap.get? b=Wv o->b≠X.env.locals:=λb o e=>W7 (WQ (WN e) I.ok.above);have neC: ∀ b o,X.s₀.heap.get? b=Wv o->b ∉ X.ex->b ∉ ch:=λb o e hx hb=>by
  rcases(hch b hb).1 with z | z
  . exact hx z
  . exact absurd (WQ (WN e) z) (Xt _)
 have cellK: ∀ x c,X.env.cells.lookup x=Wv c-> ∀ v,s.heap.IsCell c v->h'.IsCell c v:=λx c e v ⟨o,ho,hd⟩=>by
  have nch:=λz=>(hch c z).2.2.1 x c e rfl;by_cases hc:c∈X.fs
  . obtain⟨sl,q⟩:=slot c o (I.NI x c e) hc nch ho (I.jv x c e);exact⟨_,q,hd⟩
  . exact⟨o,keep c o (I.NI x c e) hc nch ho (I.jv x c e),hd⟩
 refine⟨I.ok,I.os,hg,⟨λb o e n hb hx=>?_,λb o e n hb hx=>?_,λb o e n hx=>?_,λb o e hx=>?_,λb xs e=>mV b xs (I.base.mV b xs e),λb o xs e=>l9 b o xs (I.base.l9 b o xs e),λb ps e=>?_⟩,?_,λx c e=>?_,?_,λx c e=>?_,λp hp=>?_,bA,I.len⟩
 . exact keep b o (neL b o e) hb (neC b o e hx) (I.base.keep b o e n hb hx) (I.base.free b o e n hx)
 . obtain⟨sl,e1⟩:=I.base.slot b o e n hb hx;obtain⟨sl',e2⟩:=slot b _ (neL b o e) hb (neC b o e hx) e1 (I.base.free b o e n hx);exact⟨sl',e2⟩
 . obtain⟨o',e1⟩:=I.base.there b o e hx;exact free b o' (neC b o e hx) e1 (I.base.free b o e n hx)
 . obtain⟨o',e1⟩:=I.base.there b o e hx;exact there b o' (neC b o e hx) e1
 . obtain⟨m1,e1⟩:=I.base.oG b ps e;obtain⟨m2,e2⟩:=oG b _ e1;exact⟨m1++m2,by rw[e2,ado]⟩
 . obtain⟨m,hn,hl⟩:=I.loc;refine⟨m,ns m hn,λi x v e1 e2 e3=>?_⟩;obtain⟨u,r,l⟩:=hl i x v e1 e2 e3;refine⟨u,r,?_⟩;rcases l with l | ⟨k,c,e,z⟩
   . exact .inl l
   . exact .inr ⟨k,c,e,cellK x c e _ z⟩
 . obtain⟨v,z⟩:=I.cell x c e;exact⟨v,cellK x c e v z⟩
 . obtain⟨m,⟨o,_,_,ho,_⟩,_⟩:=I.loc;exact free _ o (λz=>(hch _ z).2.1 rfl) ho I.free
 . obtain⟨v,o,ho,hd⟩:=I.cell x c e;exact free c o (λz=>(hch c z).2.2.1 x c e rfl) ho (I.jv x c e)
 . obtain⟨e,n,ne,nf,d⟩:=I.pin p hp;have nch:=λz=>(hch p.1 z).2.2.2 p hp rfl;exact⟨keep p.1 p.2 ne nf nch e n,free p.1 p.2 nch e n,ne,nf,d⟩
theorem Inv.un(I:Inv X pins σ H s)(u:Un X.fs [] H H' s.heap h')(bA:kf X.prog X.w H' h'):Inv X pins σ H' { s with heap:=h',toks:=t'}:=by
 obtain⟨m,⟨o,es,ep,ho,r⟩,_⟩:=id I.loc;obtain⟨sl,hL⟩:=u.any ho I.free (by simp);exact I.step (g':=s.gens) (d':=s.drawn) (ch:=[]) (λ_ z=>by cases z) (λb o _ hb _ e n=>u.keep b o e n hb (by simp)) (λb o _ hb _ e n=>u.slot b o e n hb (by simp)) (λb o _ e n=>u.free b o e n (by simp)) (λb o _ e=>u.there b o e (by simp)) u.mV u.l9 u.oG (λm' hm=>by
  obtain⟨o',es',ep',ho',r'⟩:=hm;rw[ho] at ho';cases ho';exact⟨_,es',ep',hL,r'⟩) bA I.bare
theorem Inv.call(I:Inv X pins σ H s)(u:Un (CQ X.stack) ch H H' s.heap h')(bA:kf X.prog X.w H' h')(hg:abz g')
  (hch: ∀ b∈ch,(b∈X.ex\/X.s₀.heap.objs.size<=b)/\b≠X.env.locals/\(∀ x c,X.env.cells.lookup x=Wv c->c≠b)/\ ∀ p∈X.pn++pins,p.1≠b) :
  Inv X pins σ H' { s with heap:=h',gens:=g',drawn:=d',toks:=t'}:=by
 obtain⟨m,⟨o,es,ep,ho,r⟩,_⟩:=id I.loc;obtain⟨sl,hL⟩:=u.any ho I.free λz=>(hch _ z).2.1 rfl;exact I.step (ch:=ch) hch (λb o hL hb hc e n=>u.keep b o e n (λz=>(WM.mp (I.nP b z)).elim hL hb) hc) (λb o _ _ hc e n=>u.any e n hc) (λb o hc e n=>u.free b o e n hc) (λb o hc e=>u.there b o e hc) u.mV u.l9 u.oG (λm' hm=>by
  obtain⟨o',es',ep',ho',r'⟩:=hm;rw[ho] at ho';cases ho';exact⟨_,es',ep',hL,r'⟩) bA hg
theorem Inv.turned(I:Inv X pins σ H s)(k: ∀ b o,b≠it->s.heap.get? b=Wv o->h'.get? b=Wv o)(hn:H it=Wx)(hL:it≠X.env.locals)
  (h1:it∈X.ex\/X.s₀.heap.objs.size<=it) (h2: ∀ x c,X.env.cells.lookup x=Wv c->c≠it) (h3: ∀ p∈X.pn++pins,p.1≠it):Inv X pins σ H { s with heap:=h',toks:=t'}:=by
 have nit: ∀ b u,H b=Wv u->b≠it:=λb u e z=>by rw[z,hn] at e;cases e
 refine I.step (g':=s.gens) (d':=s.drawn) (ch:=[it]) (λb hb=>?_) (λb o _ _ hc e _=>k b o (λz=>hc (by simp[z])) e) (λb o _ _ hc e _=>⟨o.slots,k b o (λz=>hc (by simp[z])) e⟩) (λ_ _ _ _ n=>n)
  (λb o hc e=>⟨o,k b o (λz=>hc (by simp[z])) e⟩) (λ_ _ e=>e) (λ_ _ _ e=>e) (λb ps e=>⟨#[],by rw[e];simp⟩) (λm hm=>?_) (λb u e=>?_) I.bare
 . have e:b=it:=by simpa using hb
   subst e;exact⟨h1,hL,h2,h3⟩
 . obtain⟨o,es,ep,ho,r⟩:=hm;exact⟨o,es,ep,k _ o (Za hL) ho,r⟩
 . refine(I.bA b u e).rV (λc v hc q=>k c v ?_ q) (λ_ q=>q) λ_ _ q=>q;rcases hc with z | z
   . rw[z];exact nit b u e
   . exact nit c _ z
theorem Inv.tok(I:Inv X pins σ H s) t:Inv X pins σ H { s with toks:=t}:=I.un (h':=s.heap) (t':=t) Un.refl I.bA
theorem Inv.kept(I:Inv X pins σ H s)(k: ∀ b u,s.heap.get? b=Wv u->h'.get? b=Wv u):Inv X pins σ H { s with heap:=h',toks:=t'}:=I.un (Un.kept k) (I.bA.kept k)
theorem Inv.laid{a:W2}(I:Inv X pins σ H s)(k: ∀ b u,s.heap.get? b=Wv u->h'.get? b=Wv u)(hp:s.heap.objs.size<=a)(new:aW X.prog X.w (upd H a o) h' a o) :
  Inv X pins σ (upd H a o) { s with heap:=h',toks:=t'}:=I.un (Un.laid k hp (I.bA.fresh hp)) (I.bA.laid k hp new)
theorem Inv.write(I:Inv X pins σ H s)(mu:Q9 (H x))(he:e=x∨H e=Wv (.own x))(k: ∀ b u,b≠e->s.heap.get? b=Wv u->h'.get? b=Wv u)(heo: ∃ u,h'.get? e=Wv u)
  (new:aW X.prog X.w (upd H x o) h' x o):Inv X pins σ (upd H x o) { s with heap:=h',toks:=t'}:=I.un (Un.write mu he k heo) (I.bA.write mu he k heo new)
theorem Inv.weak(I:Inv X pins σ H s)(hl: σ'.length= σ.length)(w: ∀ (i:Nat) v, σ'[i]?=Wv (Wv v)-> σ[i]?=Wv (Wv v)):Inv X pins σ' H s :=
 ⟨I.ok,I.os,I.bare,I.base,by obtain ⟨m,hn,hl'⟩:=I.loc;exact ⟨m,hn,λi x v e1 e2 e3=>hl' i x v e1 (w i v e2) e3⟩,I.cell,I.free,I.jv,I.pin,I.bA,hl.trans I.len⟩
theorem Inv.jT(I:Inv X pins σ H s)(h: ∀ p∈pins',s.heap.get? p.1=Wv p.2∧H p.1=Wx∧p.1≠X.env.locals∧p.1 ∉ X.fs∧ ∀ v,p.2.data≠ .cell v):Inv X pins' σ H s :=
 ⟨I.ok,I.os,I.bare,I.base,I.loc,I.cell,I.free,I.jv,λp hp=>(XJ.mp hp).elim (λz=>I.pin p (ZN _ z)) (h p),I.bA,I.len⟩
theorem xv{N:List Str}(hN:N.Nodup){ j:Nat}(a:N[i]?=Wv x)(b:N[j]?=Wv x):i=j:=by
 obtain⟨h1,e1⟩:=WA.mp a;obtain⟨h2,e2⟩:=WA.mp b;exact(List.getElem_inj hN).mp (e1.trans e2.symm)
theorem sQ{M:Model}{A:Yk}{E:WC->WK->Prop}{i:Nat}{x:Str}{v:V}{u:WC}{Q:Unit->WK->Prop}(I:Inv X pins σ H s)(hN:X.N.Nodup)(hi:X.N[i]?=Wv x)(hx:Loc X.env.scope x)(r:RelV v u)
  (h: ∀ s',Inv X pins (σ.set i (Wv v)) H s'->(∃ a,aa9 a s.heap s'.heap/\(a=X.env.locals\/X.env.cells.lookup x=Wv a))->Q () s') (hf:X.fn x=true\/X.env.scope.names.lookup x=Wv .local:=by first | exact .inl rfl | exact .inr rfl | assumption):W3 M A (storeName X.env x u) Q E s:=by
 obtain⟨m,hn,hl⟩:=id I.loc;have hcls:(X.env.scope.kind == .class||(X.env.scope.kind == .module&&X.env.locals !=X.env.globals))=false:=by rw[I.ok.kind];rfl
 have hiσ :i < σ.length:=by rw[I.len];exact(WA.mp hi).1
 have NI:=I.NI;have tracked: ∀{a:W2}{h':X8},(∃ o,s.heap.get? a=Wv o/\H a=Wx)->aa9 a s.heap h'->kf X.prog X.w H h':=λ{a h'} ha hs b ob e=>by
  obtain⟨_,_,hfree⟩:=ha;refine(I.bA b ob e).rV (λc w' hc q=>(hs.2 c ?_).trans q) (λ_ q=>q) λ_ _ q=>q;rintro rfl;rcases hc with rfl | hc
  . rw[hfree] at e;cases e
  . rw[hfree] at hc;cases hc
 rcases hx with hk | hk
 . refine wpAny_storeName_local hk hn (λh' hn' hs=>?_) hcls;obtain⟨oL,_,_,hoL,_⟩:=id hn;refine h _ ⟨I.ok,I.os,I.bare,⟨λb o e n hb hx=>?_,λb o e n hb hx=>?_,I.base.free,λb o e hx=>?_,I.base.mV,I.base.l9,I.base.oG⟩,⟨_,hn',λj y v' e1 e2 e3=>?_⟩,λy c e=>?_,I.free,I.jv,λp hp=>?_,tracked ⟨oL,hoL,I.free⟩ hs,by simpa using I.len⟩ ⟨_,hs,.inl rfl⟩
   . exact(hs.2 b (W7 (WQ (WN e) I.ok.above))).trans (I.base.keep b o e n hb hx)
   . obtain⟨sl,e1⟩:=I.base.slot b o e n hb hx;exact⟨sl,(hs.2 b (W7 (WQ (WN e) I.ok.above))).trans e1⟩
   . obtain⟨o',e1⟩:=I.base.there b o e hx;exact⟨o',(hs.2 b (W7 (WQ (WN e) I.ok.above))).trans e1⟩
   . by_cases hj:j=i
     . subst hj;rw[hi] at e1;cases e1;rw[Xo hiσ] at e2;cases e2;exact⟨u,r,.inl ⟨hk,by simp⟩⟩
     . rw[XS (Za hj)] at e2;obtain⟨u',r',q⟩:=hl j y v' e1 e2 e3;refine⟨u',r',?_⟩;rcases q with⟨k,e⟩ | ⟨k,c,e,z⟩
       . refine .inl ⟨k,?_⟩;have:y≠x:=λe=>hj (xv hN e1 (e ▸ hi));simp[this,e]
       . exact .inr ⟨k,c,e,z.sameBut hs (NI y c e)⟩
   . obtain⟨w',z⟩:=I.cell y c e;exact⟨w',z.sameBut hs (NI y c e)⟩
   . obtain⟨e,n,ne,nf,d⟩:=I.pin p hp;exact⟨(hs.2 p.1 ne).trans e,n,ne,nf,d⟩
 . have hfn:X.fn x=true:=by
    rcases hf with z | z
    . exact z
    . rw[z] at hk;cases hk
   obtain⟨c,hc⟩:=I.ok.has x (.inl hk);obtain⟨w',z⟩:=I.cell x c hc;refine wpAny_storeName_cell I.ok.kind hk hc z (λh' hc' hs=>?_);obtain⟨oc,hoc,hocd⟩:=id z;refine h { s with heap:=h'} ⟨I.ok,I.os,I.bare,⟨λb o e n hb hx=>?_,λb o e n hb hx=>?_,I.base.free,λb o e hx=>?_,I.base.mV,I.base.l9,I.base.oG⟩,⟨m,hn.sameBut hs (Za (NI x c hc)),λj y v' e1 e2 e3=>?_⟩,λy c' e=>?_,I.free,I.jv,λp hp=>?_,tracked ⟨oc,hoc,I.jv x c hc⟩ hs,by simpa using I.len⟩ ⟨c,hs,.inr hc⟩
   . exact(hs.2 b (W7 (WQ (WN e) (I.ok.Qb x c hfn hc)))).trans (I.base.keep b o e n hb hx)
   . obtain⟨sl,e1⟩:=I.base.slot b o e n hb hx;exact⟨sl,(hs.2 b (W7 (WQ (WN e) (I.ok.Qb x c hfn hc)))).trans e1⟩
   . obtain⟨o',e1⟩:=I.base.there b o e hx;exact⟨o',(hs.2 b (W7 (WQ (WN e) (I.ok.Qb x c hfn hc)))).trans e1⟩
   . by_cases hj:j=i
     . subst hj;rw[hi] at e1;cases e1;rw[Xo hiσ] at e2;cases e2;exact⟨u,r,.inr ⟨.inl hk,c,hc,hc'⟩⟩
     . rw[XS (Za hj)] at e2;obtain⟨u',r',q⟩:=hl j y v' e1 e2 e3;refine⟨u',r',?_⟩;rcases q with q | ⟨k,c',e,z'⟩
       . exact .inl q
       . refine .inr ⟨k,c',e,z'.sameBut hs ?_⟩;rintro rfl;exact hj (xv hN e1 (I.ok.inj _ _ _ e hc ▸ hi))
   . by_cases hcc:c'=c
     . subst hcc;exact⟨_,hc'⟩
     . obtain⟨w2,z2⟩:=I.cell y c' e;exact⟨w2,z2.sameBut hs hcc⟩
   . obtain⟨e,n,ne,nf,d⟩:=I.pin p hp;refine⟨(hs.2 p.1 ?_).trans e,n,ne,nf,d⟩;intro q;rw[q,hoc] at e;have q':=Xx e;exact d w' (by rw[<- q'];exact hocd)
theorem vw{M:Model}{A:Yk}{E:WC->WK->Prop}{i:Nat}{x:Str}{v:V}{u:WC}{Q:Unit->WK->Prop}(I:Inv X pins σ H s)(hN:X.N.Nodup)(hi:X.N[i]?=Wv x)(hx:Loc X.env.scope x)(r:RelV v u)
  (h: ∀ s',Inv X pins (σ.set i (Wv v)) H s'->Q () s') (hf:X.fn x=true\/X.env.scope.names.lookup x=Wv .local:=by first | exact .inl rfl | exact .inr rfl | assumption):W3 M A (storeName X.env x u) Q E s :=
 sQ I hN hi hx r (λs' I' _=>h s' I') hf
theorem Inv.R6(I:Inv X pins σ H s)(ho:s'.os=s.os)(u:Un (CQ X.stack) ch H H' s.heap s'.heap)(bA:kf X.prog X.w H' s'.heap)(hg:abz s'.gens)
  (hch: ∀ b∈ch,(b∈X.ex\/X.s₀.heap.objs.size<=b)/\b≠X.env.locals/\(∀ x c,X.env.cells.lookup x=Wv c->c≠b)/\ ∀ p∈X.pn++pins,p.1≠b):Inv X pins σ H' s':=by
 obtain⟨h',g',d',t',o'⟩:=s';have e:=ho;subst e;exact I.call (g':=g') (t':=t') (d':=d') u bA hg hch
end
abbrev XK:=WC->Option W2->Hp->Prop
abbrev St:=List (Option V)
abbrev VK:=V->Hp->Prop
abbrev TE:=St->Hp->VK->Prop
abbrev TT:=St->Hp->(Bool->Hp->Prop)->Prop
abbrev TA:=St->Hp->(List V->Hp->Prop)->Prop
structure Ends where
 nx:St->Hp->Prop
 rt:VK
 bk:St->Hp->Prop:=λ_ _=>False
 ct:St->Hp->Prop:=λ_ _=>False
abbrev TS:=Ends->St->Hp->Prop
def EP X (pins:List (W2 × Obj)) (σ :St) (Q:VK) (u:WC) (s':WK):= ∃ v H',Inv X pins σ H' s'/\RelV v u/\Q v H'
def TP X (pins:List (W2 × Obj)) (σ :St) (Q:Bool->Hp->Prop) b (s':WK):= ∃ H',Inv X pins σ H' s'/\Q b H'
def AP X (pins:List (W2 × Obj)) (σ :St) (Q:List V->Hp->Prop) (us:List WC) (s':WK):= ∃ vs H',Inv X pins σ H' s'/\Vals vs us/\Q vs H'
def SP X (pins:List (W2 × Obj)) (D:Ends) (f:Flow) (s':WK) :=
 match f with
 | .next=> ∃ σ' H',Inv X pins σ' H' s'/\D.nx σ' H'
 | .brk=> ∃ σ' H',Inv X pins σ' H' s'/\D.bk σ' H'
 | .cont=> ∃ σ' H',Inv X pins σ' H' s'/\D.ct σ' H'
 | .ret u=> ∃ v σ' H',Inv X pins σ' H' s'/\RelV v u/\D.rt v H'
def PE X e (t:TE) :=
 ∀ pins s(σ :St) H Q,Inv X pins σ H s->t σ H Q->W3 (W8 X.prog X.w) X.A (Yu e X.env) (EP X pins σ Q) X.xe s
def PT X e (t:TT) :=
 ∀ pins s(σ :St) H Q,Inv X pins σ H s->t σ H Q->W3 (W8 X.prog X.w) X.A (adZ e X.env (Yu e X.env)) (TP X pins σ Q) X.xe s
def PW X e (t:TT) :=
 ∀ whole pins s(σ :St) H Q,Inv X pins σ H s->t σ H Q->W3 (W8 X.prog X.w) X.A (adZ e X.env whole) (TP X pins σ Q) X.xe s
theorem PW.pt(h:PW X e t):PT X e t:=h _
def PA X (es:List XH) (t:TA) :=
 ∀ pos pins s(σ :St) H Q,Inv X pins σ H s->t σ H Q->W3 (W8 X.prog X.w) X.A (spliced (aat pos (Xp es X.env))) (AP X pins σ Q) X.xe s
def PS X st (t:TS) :=
 ∀ pins s(σ :St) H D,Inv X pins σ H s->t D σ H->W3 (W8 X.prog X.w) X.A (exec st X.env) (SP X pins D) X.xe s
def xI X (st:List acC) (t:TS) :=
 ∀ pins s(σ :St) H D,Inv X pins σ H s->t D σ H->W3 (W8 X.prog X.w) X.A (execs st X.env) (SP X pins D) X.xe s
theorem oI(h:W3 M A t Q E s)(hQ: ∀ a s,Q a s->Q' a s):W3 M A t Q' E s:=XE h hQ λ_ _ x=>x
theorem hV(h:W3 M A t (EP X pins σ Q) E s)(k: ∀ u s v H,Inv X pins σ H s->RelV v u->Q v H->Q' u s):W3 M A t Q' E s:=oI h λu s z=>by obtain⟨v,H,a,b,c⟩:=z;exact k u s v H a b c
theorem Bm(h:W3 M A t (AP X pins σ Q) E s)(k: ∀ u s v H,Inv X pins σ H s->Vals v u->Q v H->Q' u s):W3 M A t Q' E s:=oI h λu s z=>by obtain⟨v,H,a,b,c⟩:=z;exact k u s v H a b c
theorem Qs(h:W3 M A t (TP X pins σ Q) E s)(k: ∀ u s H,Inv X pins σ H s->Q u H->Q' u s):W3 M A t Q' E s:=oI h λu s z=>by obtain⟨H,a,c⟩:=z;exact k u s H a c
section
variable {X:Cx}
theorem bin(ha : PE X a ta)(hb : PE X b tb){σ : St}{R : V -> V -> Hp -> Prop}(I : Inv X pins σ H s)(h : ta σ H fun x H1 => tb σ H1 fun y H2 => R x y H2)
      {f : Value -> Value -> Sem α}
    (hf : ∀ v u s2 x y H2, Inv X pins σ H2 s2 -> RelV x v -> RelV y u -> R x y H2 -> W3 (W8 X.prog X.w) X.A (f v u) Q X.xe s2) :
    W3 (W8 X.prog X.w) X.A (Yu a X.env) (λv s₁ => W3 (W8 X.prog X.w) X.A (Yu b X.env) (λu s₂ => W3 (W8 X.prog X.w) X.A (f v u) Q X.xe s₂) X.xe s₁) X.xe s := by
  refine hV (ha pins s σ H _ I h) λv s1 x H1 I1 r1 q1 => ?_;refine hV (hb pins s1 σ H1 _ I1 q1) λu s2 y H2 I2 r2 q2 => ?_;exact hf v u s2 x y H2 I2 r1 r2 q2
noncomputable def Ri(i:Nat):TE:=fun σ H Q=> ∃ v, σ[i]?=Wv (Wv v)∧Q v H
noncomputable def tC(v:V):TE:=λ_ H Q=>Q v H
theorem OT{pos}(hN:X.N[i]?=Wv x)(hv:Qg X.env.scope x)(hd:(x == ("__debug__"))=false:=by decide)(hcd:(x == ("__classdict__"))=false:=by decide):PE X (.Name x pos) (Ri i):=by
 intro pins s σ H Q I h;obtain⟨v,e,h⟩:=h;obtain⟨m,hn,hl⟩:=I.loc;obtain⟨u,r,l⟩:=hl i x v hN e hv;have fin:EP X pins σ Q u s:=⟨v,H,I,r,h⟩
 rcases l with⟨hk,hm⟩ | ⟨hk,c,hc,hcell⟩
 . exact wpAny_Name (wpAny_loadName_local I.ok.kind hk hn hm fin) hd
 . rcases hk with hk | hk
   . exact wpAny_Name (wpAny_loadName_cell I.ok.kind hk hc hcell fin) hd
   . exact wpAny_Name (wpAny_loadName_free I.ok.kind hk hc hcell fin hcd) hd
theorem Oi:PE X (.Constant (.int i) j pos) (tC (.int i)):=λ_ _ _ H _ I h=>wpAny_Constant_int ⟨.int i,H,I.tok _,⟨_,rfl⟩,h⟩
theorem TM:PE X (.Constant (.bool b) j pos) (tC (.bl b)):=λ_ _ _ H _ I h=>Constant_bool ⟨.bl b,H,I,rfl,h⟩
theorem Qa:PE X (.Constant .none j pos) (tC .non):=λ_ _ _ H _ I h=>adh ⟨.non,H,I,rfl,h⟩
theorem Pc:PE X (.Constant (.str x) j pos) (tC (.str x)):=λ_ _ _ H _ I h=>Calls.Constant_str ⟨.str x,H,I.tok _,⟨_,rfl⟩,h⟩
def Gl(X:Cx) x:=X.env.kindOf x=Wv .globalImplicit
theorem zO{E:WC->WK->Prop}{pins:List (W2 × Obj)}{s:WK}{σ :St}{H:Hp}{x:Str}{u:WC}{pos:Pos}{Q:WC->WK->Prop}(I:Inv X pins σ H s)(hg:Gl X x)(hm:X.mg x=Wv u)(h:Q u s)
  (hd:(x == ("__debug__" :Str))=false:=by decide):W3 (W8 X.prog X.w) X.A (Yu (.Name x pos) X.env) Q E s :=
 abh I.ok.kind hg (Calls.loadGlobal_global (by rw[I.ok.glob];exact I.mod.glob.keeps I.bk) hm h) hd
theorem gY{E:WC->WK->Prop}{pins:List (W2 × Obj)}{s:WK}{σ :St}{H:Hp}{x:Str}{u:WC}{pos:Pos}{Q:WC->WK->Prop}(I:Inv X pins σ H s)(hg:Gl X x)(hm:X.mg x=Wx)(hv:Yc x=Wv u)(h:Q u s)
  (hn:x≠ "__name__" :=by decide) (hd:(x == ("__debug__" :Str))=false:=by decide):W3 (W8 X.prog X.w) X.A (Yu (.Name x pos) X.env) Q E s:=by
 obtain⟨mb,h1,h2⟩:=I.mod.blt;exact abh I.ok.kind hg (Calls.loadGlobal_builtin (by rw[I.ok.glob];exact I.mod.glob.keeps I.bk) hm (by rw[I.ok.blt];exact h1.keeps I.bk) ((h2 x hn).trans hv) h) hd
theorem As(hg:Gl X x)(hm:X.mg x=Wv u)(r:RelV v u)(hd:(x == ("__debug__"))=false:=by decide):PE X (.Name x pos) (tC v) :=
 λ_ _ _ H _ I h=>zO I hg hm ⟨v,H,I,r,h⟩ hd
theorem Hy{pos}(hg:Gl X x)(hm:X.mg x=Wx)(hv:Yc x=Wv u)(r:RelV v u)(hn:x≠ "__name__" :=by decide)(hd:(x == ("__debug__"))=false:=by decide):PE X (.Name x pos) (tC v) :=
 λ_ _ _ H _ I h=>gY I hg hm hv ⟨v,H,I,r,h⟩ hn hd
variable{a b:XH}{ta tb:TE}{pos:Pos}
def PC X (op:CmpOp) a b (t:TE) :=
 ∀ pins s(σ :St) H Q,Inv X pins σ H s->t σ H Q ->
  W3 (W8 X.prog X.w) X.A (Yu a X.env) (λv s₁ =>W3 (W8 X.prog X.w) X.A (Yu b X.env) (λu s₂ =>W3 (W8 X.prog X.w) X.A (Xh op v u) (EP X pins σ Q) X.xe s₂) X.xe s₁) X.xe s
theorem vG b (h:op≠ .In) (h2:op≠ .NotIn):Yl op b=false:=by
 have e1:(op == CmpOp.In)=false:=by cases op<;>first | rfl | exact absurd rfl h
 have e2:(op == CmpOp.NotIn)=false:=by cases op<;>first | rfl | exact absurd rfl h2
 cases b<;>simp[Yl,e1,e2]
noncomputable def Mh(ta:TE):TE:=fun σ H Q=>ta σ H λx H1=>Q (.bl (decide (x= .non))) H1
noncomputable def KC(ta:TE):TE:=fun σ H Q=>ta σ H λx H1=>Q (.bl (!decide (x= .non))) H1
theorem RelV.wW(r:RelV x v):(v == YI)=decide (x= .non):=by
 cases x with
 | non=>cases r;rfl
 | bl _=>cases r;rfl
 | int _=>obtain⟨t,rfl⟩:=r;rfl
 | str _=>obtain⟨t,rfl⟩:=r;rfl
 | byt _=>obtain⟨t,rfl⟩:=r;rfl
 | flt _=>obtain⟨t,rfl⟩:=r;rfl
 | ref _=>cases r;rfl
 | ty _=>cases r;rfl
theorem EV(ha:PE X a ta):PC X .Is a (.Constant .none j pos') (Mh ta):=by
 intro pins s σ H Q I h;refine hV (ha pins s σ H _ I h) λv s1 x H1 I1 r1 q1=>?_;exact adh (is_none_gen ⟨.bl _,H1,I1,by rw[r1.wW];rfl,q1⟩)
theorem Iu(ha:PE X a ta):PC X .IsNot a (.Constant .none j pos') (KC ta):=by
 intro pins s σ H Q I h;refine hV (ha pins s σ H _ I h) λv s1 x H1 I1 r1 q1=>?_;exact adh (isnot_none_gen ⟨.bl _,H1,I1,by rw[r1.wW];rfl,q1⟩)
noncomputable def tB(t:TE):TT:=fun σ H Q=>t σ H λx H1=> ∃ c,x= .bl c/\Q c H1
theorem NX(h:PC X op a b t)(h1:Yl op b=false:=by first | exact vG _ (by decide) (by decide) | rfl):PE X (.Compare a [op] [b] pos) t:=λpins s σ H Q I hw=>wpAny_Compare1 (h pins s σ H Q I hw) h1
theorem FD(h:PC X op a b t)(h1:Yl op b=false:=by first | exact vG _ (by decide) (by decide) | rfl):PT X (.Compare a [op] [b] pos) (tB t):=by
 intro pins s σ H Q I hw;refine acD (oI (h pins s σ H _ I hw) λv s1 h1=>oI h1 λu s2 h2=>hV h2 λc s3 x H1 I1 r1 q1=>?_) h1;obtain⟨d,rfl,q⟩:=q1;cases r1;exact Yx ⟨H1,I1,q⟩
theorem P0(h:PE X e t)(he: ∀ whole,adZ e X.env whole=(do let v <- whole;aer e.pos;aau [v] (truthy v)):=by intro _;rfl):PT X e (tB t):=by
 intro pins s σ H Q I hw;refine isTrue_plain (hV (h pins s σ H _ I hw) λv s1 x H1 I1 r1 q1=>?_) (he _);obtain⟨d,rfl,q⟩:=q1;cases r1;exact Yx ⟨H1,I1,q⟩
variable{tA tB':TT}{rest:List XH}
noncomputable def TF(t u:TT):TT:=fun σ H Q=>t σ H λc H1=>if c=true then u σ H1 Q else Q false H1
noncomputable def V5(t u:TT):TT:=fun σ H Q=>t σ H λc H1=>if c=true then Q true H1 else u σ H1 Q
noncomputable def RF(t:TT):TT:=fun σ H Q=>t σ H λc H1=>Q (!c) H1
theorem pw_and1(ha:PT X a tA):PW X (.BoolOp .And [a] pos) tA:=by
 intro wh pins s σ H Q I h;refine isTrue_and (oI (ha pins s σ H Q I h) λc s1 e=>?_);cases c with
 | true=>exact isTrue_and_nil e
 | false=>exact e
theorem pw_or1(ha:PT X a tA):PW X (.BoolOp .Or [a] pos) tA:=by
 intro wh pins s σ H Q I h;refine isTrue_or (oI (ha pins s σ H Q I h) λc s1 e=>?_);cases c with
 | false=>exact isTrue_or_nil e
 | true=>exact e
theorem pw_and(ha:PT X a tA)(hb:PW X (.BoolOp .And (b::rest) pos) tB'):PW X (.BoolOp .And (a::b::rest) pos) (TF tA tB'):=by
 intro wh pins s σ H Q I h;refine isTrue_and (Qs (ha pins s σ H _ I h) λc s1 H1 I1 q1=>?_);cases c with
 | true=>exact hb wh pins s1 σ H1 Q I1 q1
 | false=>exact⟨H1,I1,q1⟩
theorem pw_or(ha:PT X a tA)(hb:PW X (.BoolOp .Or (b::rest) pos) tB'):PW X (.BoolOp .Or (a::b::rest) pos) (V5 tA tB'):=by
 intro wh pins s σ H Q I h;refine isTrue_or (Qs (ha pins s σ H _ I h) λc s1 H1 I1 q1=>?_);cases c with
 | true=>exact⟨H1,I1,q1⟩
 | false=>exact hb wh pins s1 σ H1 Q I1 q1
theorem Mn(ha:PT X a tA):PT X (.UnaryOp .Not a pos) (RF tA):=by
 intro pins s σ H Q I h;exact isTrue_not (ha pins s σ H (λc H1=>Q (!c) H1) I h)
noncomputable def Lu(ta tb:TE):TE:=fun σ H Q=>ta σ H λx H1=> ∃ c,x= .bl c/\if c=true then tb σ H1 Q else Q (.bl false) H1
noncomputable def QY(ta tb:TE):TE:=fun σ H Q=>ta σ H λx H1=> ∃ c,x= .bl c/\if c=true then Q (.bl true) H1 else tb σ H1 Q
noncomputable def Lf(ta:TE):TE:=fun σ H Q=>ta σ H λx H1=> ∃ c,x= .bl c/\Q (.bl (!c)) H1
theorem Mt(h:PE X a t):PE X (.BoolOp op [a] pos) t:=λpins s σ H Q I hw=>BoolOp_one (h pins s σ H Q I hw)
theorem NS(ha:PE X a ta)(hb:PE X (.BoolOp .And (b::rest) pos) tb):PE X (.BoolOp .And (a::b::rest) pos) (Lu ta tb):=by
 intro pins s σ H Q I h;refine BoolOp_and (hV (ha pins s σ H _ I h) λv s1 x H1 I1 r1 q1=>?_);obtain⟨c,rfl,q1⟩:=q1;cases r1;refine Yx ?_;cases c with
 | true=>exact hb pins s1 σ H1 Q I1 q1
 | false=>exact⟨.bl false,H1,I1,rfl,q1⟩
theorem RW(ha:PE X a ta)(hb:PE X (.BoolOp .Or (b::rest) pos) tb):PE X (.BoolOp .Or (a::b::rest) pos) (QY ta tb):=by
 intro pins s σ H Q I h;refine BoolOp_or (hV (ha pins s σ H _ I h) λv s1 x H1 I1 r1 q1=>?_);obtain⟨c,rfl,q1⟩:=q1;cases r1;refine Yx ?_;cases c with
 | false=>exact hb pins s1 σ H1 Q I1 q1
 | true=>exact⟨.bl true,H1,I1,rfl,q1⟩
theorem NM(ha:PE X a ta):PE X (.UnaryOp .Not a pos) (Lf ta):=by
 intro pins s σ H Q I h;refine UnaryOp_ (hV (ha pins s σ H _ I h) λv s1 x H1 I1 r1 q1=>?_);obtain⟨c,rfl,q1⟩:=q1;cases r1;exact not_of (Yx ⟨.bl (!c),H1,I1,rfl,q1⟩)
noncomputable def VI(t:TT)(ta tb:TE):TE:=fun σ H Q=>t σ H λc H1=>if c=true then ta σ H1 Q else tb σ H1 Q
theorem FG(hc:PT X c tA)(ha:PE X a ta)(hb:PE X b tb):PE X (.IfExp c a b pos) (VI tA ta tb):=by
 intro pins s σ H Q I h;refine wpAny_IfExp (Qs (hc pins s σ H _ I h) λd s1 H1 I1 q1=>?_);cases d with
 | true=>exact ha pins s1 σ H1 Q I1 q1
 | false=>exact hb pins s1 σ H1 Q I1 q1
end
def hW(K:Wz) H a (xs:List V) :=
 Rd H a (.lst xs) \/
  ∃(o:Obj)(ak:Array WC)(n:Nat),K.lookup a=Wv o/\o.cls= .type "list" /\o.dict=Wx/\o.data= .seq ak n/\ak.size<=WJ/\Vals xs ak.toList
def fw(K:Wz) H a (xs:List V) :=
 Rd H a (.tup xs) \/
  ∃(o:Obj)(ak:Array WC)(n:Nat),K.lookup a=Wv o/\o.cls= .type "tuple" /\o.data= .seq ak n/\ak.size<=WJ/\Vals xs ak.toList
noncomputable def U1:WC->Option V
 | .none=>Wv .non
 | .bool b=>Wv (.bl b)
 | .int i _=>Wv (.int i)
 | .str x _=>Wv (.str x)
 | .bytes b _=>Wv (.byt b)
 | .float b _=>Wv (.flt b)
 | .ref a=>Wv (.ref a)
 | .type n=>Wv (.ty n)
 | _=>Wx
theorem RelV.abs(r:RelV x u):U1 u=Wv x:=by
 cases x with
 | non=>cases r;rfl
 | bl _=>cases r;rfl
 | int _=>obtain⟨t,rfl⟩:=r;rfl
 | str _=>obtain⟨t,rfl⟩:=r;rfl
 | byt _=>obtain⟨t,rfl⟩:=r;rfl
 | flt _=>obtain⟨t,rfl⟩:=r;rfl
 | ref _=>cases r;rfl
 | ty _=>cases r;rfl
theorem RelV.inj(r:RelV x u)(q:RelV y u):x=y:=Xx (r.abs.symm.trans q.abs)
theorem Vals.inj: ∀{xs ys us},Vals xs us->Vals ys us->xs=ys
 | _,_,_,.nil,.nil=>rfl
 | _,_,_,.cons r t,.cons r' t'=>by rw[r.inj r',Vals.inj t t']
section
variable{X:Cx}{pins:List (W2 × Obj)}{σ :St}{H:Hp}{s:WK}{a:W2}{xs ys:List V}
theorem hW.of{K:Wz}(h:H a=Wv (.lst xs)):hW K H a xs:= .inl (.inl h)
theorem fw.of{K:Wz}(h:H a=Wv (.tup xs)):fw K H a xs:= .inl (.inl h)
theorem Inv.list(I:Inv X pins σ H s)(h:hW X.K H a xs): ∃ ak ,Vals xs ak/\PlainL s.heap a ak.toArray/\xs.length<=WJ:=by
 rcases h with h | ⟨o,ak,n,hk,hc,hd,hs,hz,r⟩
 . obtain⟨z,ak,n,r,e⟩:=h.ok I.bA;exact⟨ak,r,⟨_,n,e,rfl,rfl,rfl⟩,z⟩
 . refine⟨ak.toList,r,⟨o,n,I.kL a o hk,hc,hd,by simpa using hs⟩,?_⟩;have e:=r.length;simp only[YF] at e;omega
theorem Inv.tuple(I:Inv X pins σ H s)(h:fw X.K H a xs): ∃ ak ,Vals xs ak/\IsTup s.heap a ak.toArray/\xs.length<=WJ:=by
 rcases h with h | ⟨o,ak,n,hk,hc,hs,hz,r⟩
 . obtain⟨z,ak,r,p⟩:=h.ok I.bA;exact⟨ak,r,p.tup,z⟩
 . refine⟨ak.toList,r,⟨o,I.kL a o hk,hc,n,by simpa using hs⟩,?_⟩;have e:=r.length;simp only[YF] at e;omega
theorem Inv.Ea(I:Inv X pins σ H s)(h:hW X.K H a xs)(h':hW X.K H a ys):xs=ys:=by
 obtain⟨ak,r,⟨o,n,e,_,_,d⟩,_⟩:=I.list h;obtain⟨its',r',⟨o',n',e',_,_,d'⟩,_⟩:=I.list h';rw[e] at e';cases e';rw[d] at d';injection d' with d1 _;have:ak=its':=by simpa using congrArg aeE d1
 subst this;exact r.inj r'
theorem Inv.jW(I:Inv X pins σ H s)(h:fw X.K H a xs)(h':fw X.K H a ys):xs=ys:=by
 obtain⟨ak,r,⟨o,e,_,n,d⟩,_⟩:=I.tuple h;obtain⟨its',r',⟨o',e',_,n',d'⟩,_⟩:=I.tuple h';rw[e] at e';cases e';rw[d] at d';injection d' with d1 _;have:ak=its':=by simpa using congrArg aeE d1
 subst this;exact r.inj r'
end
abbrev Cx.rZ(X:Cx)(E:WC->WK->Prop):Cx:={ X with xe:=E}
abbrev Cx.wq(X:Cx):Cx:=X.rZ λ_ _=>False
theorem Cx.Ok.rZ{X:Cx}(ok:X.Ok) E:(X.rZ E).Ok :=
 ⟨ok.mod,ok.kind,ok.glob,ok.blt,ok.above,ok.inj,ok.has,ok.Qb,ok.hd,ok.frames,ok.Ss,ok.UA,ok.bs,ok.Gh,ok.Bf,ok.Du,ok.mS,ok.KO⟩
theorem Cx.Ok.jt{X:Cx}(ok:(X.rZ E).Ok):X.Ok :=
 ⟨ok.mod,ok.kind,ok.glob,ok.blt,ok.above,ok.inj,ok.has,ok.Qb,ok.hd,ok.frames,ok.Ss,ok.UA,ok.bs,ok.Gh,ok.Bf,ok.Du,ok.mS,ok.KO⟩
section
variable{X:Cx}{pins:List (W2 × Obj)}{σ :St}{H:Hp}{s:WK}{E:WC->WK->Prop}
theorem Inv.rZ(I:Inv X pins σ H s) E:Inv (X.rZ E) pins σ H s:=⟨I.ok.rZ E,I.os,I.bare,I.base,I.loc,I.cell,I.free,I.jv,I.pin,I.bA,I.len⟩
theorem Inv.jt(I:Inv (X.rZ E) pins σ H s):Inv X pins σ H s:=⟨I.ok.jt,I.os,I.bare,I.base,I.loc,I.cell,I.free,I.jv,I.pin,I.bA,I.len⟩
theorem SP.jt(h:SP (X.rZ E) pins D f s'):SP X pins D f s':=by
 cases f with
 | next=>obtain ⟨σ',H',I,q⟩:=h;exact ⟨σ',H',I.jt,q⟩
 | brk=>obtain ⟨σ',H',I,q⟩:=h;exact ⟨σ',H',I.jt,q⟩
 | cont=>obtain ⟨σ',H',I,q⟩:=h;exact ⟨σ',H',I.jt,q⟩
 | ret u=>obtain ⟨v, σ',H',I,r,q⟩:=h;exact ⟨v, σ',H',I.jt,r,q⟩
theorem xI.wq{st}(h:xI X.wq st t):xI X st t:=λpins s σ H D I hw =>
 XE (h pins s σ H D (I.rZ _) hw) (λ_ _ q=>q.jt) λ_ _ z=>YU z
end
section
variable{X:Cx}{st:acC}{rest:List acC}{t u:TS}{e:XH}{te:TE}{pos:Pos}
noncomputable def F7:TS:=λD σ H=>D.nx σ H
noncomputable def Mo(t u:TS):TS:=λD σ H=>t { D with nx:=u D} σ H
theorem Jt:xI X [] F7:=λ_ _ σ H _ I h=>aag ⟨σ,H,I,h⟩
theorem E9(h1:PS X st t)(h2:xI X rest u):xI X (st::rest) (Mo t u):=by
 intro pins s σ H D I h;refine wpAny_execs_cons (oI (h1 pins s σ H { D with nx:=u D} I h) λf s1 q=>?_);cases f with
 | next =>
  obtain⟨σ',H',I',q⟩:=q
  exact h2 pins s1 σ' H' D I' q
 | ret v=>exact q
 | brk=>exact q
 | cont=>exact q
theorem Ia(h1:PS X st t):xI X [st] t:=by
 intro pins s σ H D I h;refine wpAny_execs_cons (oI (h1 pins s σ H D I h) λf s1 q=>?_);cases f with
 | next=>exact aag q
 | ret v=>exact q
 | brk=>exact q
 | cont=>exact q
theorem Inv.quiet{σ :St}(I:Inv X pins σ H s):interactive X.env=false:=by simp[interactive,I.ok.kind]
noncomputable def Kv(te:TE):TS:=λD σ H=>te σ H λ_ H1=>D.nx σ H1
theorem HI(he:PE X e te)(hs:ZH e Wx pos.line X.env=pure false:=by rfl):PS X (.Expr e pos) (Kv te):=by
 intro pins s σ H D I h;exact wpAny_Expr_any (hV (he pins s σ H _ I h) λv s1 x H1 I1 r1 q1=>⟨σ,H1,I1,q1⟩) I.quiet hs
noncomputable def Q3(te:TE):TS:=λD σ H=>te σ H D.rt
theorem Nf(he:PE X e te):PS X (.Return (Wv e) pos) (Q3 te):=by
 intro pins s σ H D I h;exact wpAny_Return_some (hV (he pins s σ H _ I h) λv s1 x H1 I1 r1 q1=>⟨x, σ,H1,I1,r1,q1⟩)
noncomputable def QM(c:TT)(t u:TS):TS:=λD σ H=>c σ H λb H1=>if b=true then t D σ H1 else u D σ H1
theorem To(hc:PT X c tc)(ha:xI X a t)(hb:xI X b u):PS X (.If c a b pos) (QM tc t u):=by
 intro pins s σ H D I h;refine wpAny_If (Qs (hc pins s σ H _ I h) λd s1 H1 I1 q1=>?_);cases d with
 | true=>exact ha pins s1 σ H1 D I1 q1
 | false=>exact hb pins s1 σ H1 D I1 q1
noncomputable def ON:TS:=λ_ _ _=>False
theorem C0:PS X st ON:=λ_ _ _ _ _ _ h=>h.elim
end
abbrev TG:=V->St->Hp->(St->Hp->Prop)->Prop
abbrev Gm:=List V->St->Hp->(St->Hp->Prop)->Prop
def PG X target (t:TG) :=
 ∀ pins s(σ :St) H v u Q,Inv X pins σ H s->RelV v u->t v σ H Q ->
  W3 (W8 X.prog X.w) X.A (aa1 target X.env u) (λ_ s'=> ∃ σ' H',Inv X pins σ' H' s'/\Q σ' H') X.xe s
def SF X (ts:List XH) (t:Gm) :=
 ∀ pins s(σ :St) H vs us Q,Inv X pins σ H s->Vals vs us->t vs σ H Q ->
  W3 (W8 X.prog X.w) X.A (assignInOrder ((X6 ts X.env).map (·.2)) us) (λ_ s'=> ∃ σ' H',Inv X pins σ' H' s'/\Q σ' H') X.xe s
abbrev Jc:=V->V->V->Hp->(Hp->Prop)->Prop
def pP X (t:Jc) :=
 ∀ pins s(σ :St) H o i v ov iv u Q,Inv X pins σ H s->RelV o ov->RelV i iv->RelV v u->t o i v H Q ->
  W3 (W8 X.prog X.w) X.A (adD ov iv u) (λ_ s'=> ∃ H',Inv X pins σ H' s'/\Q H') X.xe s
abbrev UD:=V->V->Hp->VK->Prop
def Vz X (op:Operator) (t:UD) :=
 ∀ pins s(σ :St) H x y v u Q,Inv X pins σ H s->RelV x v->RelV y u->t x y H Q ->
  W3 (W8 X.prog X.w) X.A (inplaceOp op v u) (EP X pins σ Q) X.xe s
section
variable{X:Cx}{pos:Pos}
noncomputable def gG(i:Nat):TG:=λv σ H Q=>Q (σ.set i (Wv v)) H
theorem IL(hN:X.N.Nodup)(hi:X.N[i]?=Wv x)(hx:Loc X.env.scope x)(hf:X.fn x=true\/X.env.scope.names.lookup x=Wv .local:=by first | exact .inl rfl | exact .inr rfl | assumption):PG X (.Name x pos) (gG i):=by
 intro pins s σ H v u Q I r h;exact wpAny_assign_Name (vw I hN hi hx r (λs' I'=>⟨_,H,I',h⟩) hf)
noncomputable def A7:Gm:=λvs σ H Q=>vs=[]/\Q σ H
noncomputable def nU(t:TG)(u:Gm):Gm:=λvs σ H Q=> ∃ v r,vs=v::r/\t v σ H fun σ' H'=>u r σ' H' Q
theorem Gs:SF X [] A7:=by
 intro pins s σ H vs us Q I r h;obtain⟨e,h⟩:=h;subst e;exact assignInOrder_nil ⟨σ,H,I,h⟩
theorem DR(h1:PG X e t)(h2:SF X es u)
  (hs:(X6 (e::es) X.env).map (·.2)=aa1 e X.env::(X6 es X.env).map (·.2):=by rfl):SF X (e::es) (nU t u):=by
 intro pins s σ H vs us Q I r h;obtain⟨v,vr,e1,h⟩:=h;subst e1;cases r with
 | cons r rr =>
  rw[hs]
  refine assignInOrder_cons (oI (h1 pins s σ H _ _ _ I r h) λ_ s1 z9=>?_);obtain⟨σ1,H1,I1,q1⟩:=z9
  exact h2 pins s1 σ1 H1 _ _ Q I1 rr q1
noncomputable def xS(K:Wz)(n:Nat)(t:Gm):TG:=λv σ H Q=> ∃ a xs,v= .ref a/\fw K H a xs/\xs.length=n/\t xs σ H Q
theorem LB{k}(hc:X.calm=true)(h:SF X es t)
  (hn:(X6 es X.env).length=n:=by rfl) (hst:(X6 es X.env).findIdx? (·.1)=Wx:=by rfl):PG X (.Tuple es k pos) (xS X.K n t):=by
 intro pins s σ H v u Q I r hw;obtain⟨a,xs,e1,hq,hl,hw⟩:=hw;subst e1;cases r;obtain⟨ak,rv,ht,hz⟩:=I.tuple hq;refine assign_Tuple_tuple (I.ok.hd hc) ht (by simp[hn,<- hl,rv.length]) hst λh' hx=>?_;have I1:=I.kept (t':=s.toks) λb o e=>hx b o (W7 (WN e)) e;exact h pins _ σ H xs _ Q I1 (by simpa using rv) hw
noncomputable def Vb(to ti:TE)(t:Jc):TG:=λv σ H Q=>to σ H λo H1=>ti σ H1 λi H2=>t o i v H2 λH3=>Q σ H3
theorem Pl(ho:PE X o to)(hi:PE X i ti)(hs:pP X t)
  (ha: ∀ v,aa1 (.Subscript o i pos) X.env v=(do
   let ov <- aau [v] (Yu o X.env)
   let iv <- aau [v,ov] (Yu i X.env)
   aer pos
   aau [v,ov,iv] (adD ov iv v)
   release [v,ov,iv] []):=by intro _;rfl):PG X (.Subscript o i pos) (Vb to ti t):=by
 intro pins s σ H v u Q I r h;rw[ha];refine Ww (XQ (hV (ho pins s σ H _ I h) λov s1 x H1 I1 r1 q1=>?_));refine Ww (XQ (hV (hi pins s1 σ H1 _ I1 q1) λiv s2 y H2 I2 r2 q2=>?_));refine Ww (adi (Ww (XQ (oI (hs pins s2 σ H2 x y v ov iv u _ I2 r1 r2 r q2) λ_ s3 z9=>?_))));obtain⟨H3,I3,q3⟩:=z9;exact wpAny_release ⟨σ,H3,I3,q3⟩
noncomputable def Jb(te:TE)(g:TG):TS:=λD σ H=>te σ H λx H1=>g x σ H1 D.nx
theorem L6(he:PE X e te)(hg:PG X tg g)(hs:abH [tg] e pos.line X.env=pure false:=by rfl)(hw:abI [tg] e X.env=pure Wx:=by rfl)
  (h1:(X6 [tg] X.env).map (·.2)=[aa1 tg X.env]:=by rfl):PS X (.Assign [tg] e pos) (Jb te g):=by
 intro pins s σ H D I h;refine wpAny_Assign_stores (hV (he pins s σ H _ I h) λv s1 x H1 I1 r1 q1=>?_) hs hw;rw[h1];exact oI (hg pins s1 σ H1 x v _ I1 r1 q1) λ_ s2 q=>q
theorem Nk(hN:X.N.Nodup)(hi:X.N[i]?=Wv x)(hx:Loc X.env.scope x)(he:PE X e te)(hs:ZH e (Wv (.Name x pos')) pos.line X.env=pure false:=by rfl)(hf:X.fn x=true\/X.env.scope.names.lookup x=Wv .local:=by first | exact .inl rfl | exact .inr rfl | assumption) :
  PS X (.Assign [.Name x pos'] e pos) (Jb te (gG i)):=by
 intro pins s σ H D I h;refine wpAny_Assign_Name (hV (he pins s σ H _ I h) λv s1 y H1 I1 r1 q1=>?_) hs;exact vw I1 hN hi hx r1 (λs2 I2=>⟨_,H1,I2,q1⟩) hf
noncomputable def Ta(to ti te:TE)(tget:V->V->Hp->VK->Prop)(tip:UD)(tset:Jc):TS:=λD σ H=>to σ H λo H1=>ti σ H1 λi H2=>tget o i H2 λx H3=>te σ H3 λy H4=>tip x y H4 λz H5=>tset o i z H5 λH6=>D.nx σ H6
def RO X (t:V->V->Hp->VK->Prop) :=
 ∀ pins s(σ :St) H o i ov iv Q,Inv X pins σ H s->RelV o ov->RelV i iv->t o i H Q ->
  W3 (W8 X.prog X.w) X.A (aaQ ov iv) (EP X pins σ Q) X.xe s
theorem JB(ho:PE X o to)(hi:PE X i ti)(hg:RO X tget)(he:PE X e te)(hp:Vz X op tip)(hs:pP X tset)
  (ha: ∀ ov iv new,augStore i ov iv new=(do aau [new,ov,iv] (adD ov iv new);release [new,ov,iv] [];pure .next):=by intros;rfl):PS X (.AugAssign (.Subscript o i tpos) op e pos) (Ta to ti te tget tip tset):=by
 intro pins s σ H D I h;refine wpAny_AugAssign_SubscriptAny (hV (ho pins s σ H _ I h) λov s1 x1 H1 I1 r1 q1=>?_) ha;refine hV (hi pins s1 σ H1 _ I1 q1) λiv s2 x2 H2 I2 r2 q2=>?_;refine hV (hg pins s2 σ H2 x1 x2 ov iv _ I2 r1 r2 q2) λold s3 x3 H3 I3 r3 q3=>?_;refine hV (he pins s3 σ H3 _ I3 q3) λv s4 x4 H4 I4 r4 q4=>?_;refine hV (hp pins s4 σ H4 x3 x4 old v _ I4 r3 r4 q4) λnew s5 x5 H5 I5 r5 q5=>?_;exact oI (hs pins s5 σ H5 x1 x2 x5 ov iv new _ I5 r1 r2 r5 q5) λ_ s6=>by rintro ⟨H6,I6,q6⟩;exact⟨σ,H6,I6,q6⟩
noncomputable def Wo(f:Int->Int->Int):UD:=λx y H Q=> ∃ i j,x= .int i/\y= .int j/\Q (.int (f i j)) H
theorem LO:Vz X .Add (Wo λi j=>i+j):=by
 intro pins s σ H x y v u Q I r1 r2 h;obtain⟨i,j,e1,e2,q⟩:=h;subst e1;subst e2;obtain⟨t,rfl⟩:=r1;obtain⟨t',rfl⟩:=r2;exact iadd_int ⟨.int _,H,I.tok _,⟨_,rfl⟩,q⟩
end
section
variable{X:Cx}{pos:Pos}
noncomputable def FE(c:TT)(tb:TS):TS:=λD σ H=> ∃ W:Nat->St->Hp->Prop,(∃ m,W m σ H)/\ ∀ m σ H,W m σ H ->
 c σ H λb H1=>if b=true then ∃ N ,(∀ σ' H',N σ' H'-> ∃ m',m' < m/\W m' σ' H')/\tb { D with nx:=N,ct:=N,bk:=D.nx} σ H1 else D.nx σ H1
theorem FW(hp:abZ (W8 X.prog X.w) X.A X.env X.xe)(hc:PT X c tc)(hb:xI X body tb):PS X (.While c body [] pos) (FE tc tb):=by
 intro pins s σ H D I h;obtain⟨W,⟨m0,w0⟩,turn⟩:=h;refine wpAny_While (codeAny_whileLoop (λn s'=> ∃ σ' H',Inv X pins σ' H' s'/\W n σ' H') ?_ m0 ⟨σ,H,I,w0⟩);rintro n s1 ⟨σ1,H1,I1,w1⟩;refine Y8 hp (Qs (hc pins s1 σ1 H1 _ I1 (turn n σ1 H1 w1)) λb s2 H2 I2 q2=>?_);cases b with
 | true =>
  obtain⟨N,hN,q2⟩:=q2
  refine Y8 hp (oI (hb pins s2 σ1 H2 _ I2 q2) λf s3 q3=>?_)
  cases f with
  | next =>
   obtain ⟨σ3,H3,I3,n3⟩:=q3
   obtain ⟨m',hm,w3⟩:=hN σ3 H3 n3
   exact ⟨m',hm, σ3,H3,I3,w3⟩
  | cont =>
   obtain ⟨σ3,H3,I3,n3⟩:=q3
   obtain ⟨m',hm,w3⟩:=hN σ3 H3 n3
   exact ⟨m',hm, σ3,H3,I3,w3⟩
  | brk=>exact q3
  | ret v=>exact q3
 | false =>
  exact aag ⟨σ1,H2,I2,q2⟩
end
structure It where
 go:Nat->Hp->Prop
 Kz:Nat->Hp->V->Hp->Prop
 stop:Nat->Hp->Prop
def iD(X:Cx)(pins:List (W2 × Obj))(H:Hp) b :=
 H b=Wx/\b≠X.env.locals/\b ∉ X.fs/\(b∈X.ex\/X.s₀.heap.objs.size<=b)/\(∀ x c,X.env.cells.lookup x=Wv c->c≠b)/\ ∀ p∈X.pn++pins,p.1≠b
theorem Inv.yy{X:Cx}{pins:List (W2 × Obj)}{σ :St}{H H':Hp}{s:WK}{b:W2}(I:Inv X pins σ H s)(hb:s.heap.objs.size<=b)(hn:H' b=Wx):iD X pins H' b:=by
 refine⟨hn,Yq (WQ I.lt hb),I.Q8 hb,.inr (Xb I.sz hb),λx c e z=>?_,λp hp z=>?_⟩
 . obtain⟨v,q⟩:=I.cell x c e;exact absurd (WQ q.lt (by rw[z];exact hb)) (Xt _)
 . exact absurd (WQ (WN (I.pin p hp).1) (by rw[z];exact hb)) (Xt _)
structure Turn(P:Xy)(w:X0)(K:Wz)(tg:XH)(J:It)(fp:List W2)(it:W2)(tn:Nat->X8->Prop):Prop where
 mem:it∈fp
 obj: ∀ i h,tn i h-> ∀ b∈fp,∃ o,h.get? b=Wv o/\ ∀ v,o.data≠ .cell v
 keep: ∀ i h h',tn i h->(∀ b∈fp,∀ o,h.get? b=Wv o->h'.get? b=Wv o)->tn i h'
 item: ∀(X:Cx),X.prog=P->X.w=w->X.K=K->X.calm=true-> ∀(i:Nat)(pins:List (W2 × Obj))(s:WK)(σ :St)(H:Hp)(E:WC->WK->Prop),Inv X pins σ H s->(∀ b∈fp,iD X pins H b)->tn i s.heap->J.go i H ->
  W3 (W8 P w) X.A (acL (.ref it)) (λr s1=> ∃ u,r=Wv u /\
   W3 (W8 P w) X.A (acw tg (.ref it) u) (λ_ s2=> ∃ x H',Inv X pins σ H' s2/\RelV x u/\J.Kz i H x H'/\tn (i+1) s2.heap/\ ∀ b∈fp,H' b=Wx) E s1) E s
 done: ∀(X:Cx),X.prog=P->X.w=w->X.K=K->X.calm=true-> ∀(i:Nat)(pins:List (W2 × Obj))(s:WK)(σ :St)(H:Hp)(E:WC->WK->Prop),Inv X pins σ H s->(∀ b∈fp,iD X pins H b)->tn i s.heap->J.stop i H ->
  W3 (W8 P w) X.A (acL (.ref it)) (λr s1=>r=Wx/\Inv X pins σ H s1) E s
 self: ∀(A:Yk)(i:Nat)(s:WK)(Q:WC->WK->Prop)(E:WC->WK->Prop),tn i s.heap->Q (.ref it) s->W3 (W8 P w) A (adp (.ref it)) Q E s
abbrev TI:=St->Hp->(It->Hp->Prop)->Prop
def QQ X (pins:List (W2 × Obj)) (σ :St) tg (R:It->Hp->Prop) (itv:WC) (s2:WK) :=
 ∃(it:W2)(fp:List W2)(tn:Nat->X8->Prop)(J:It)(H':Hp),itv= .ref it/\Inv X pins σ H' s2/\Turn X.prog X.w X.K tg J fp it tn/\tn 0 s2.heap/\(∀ b∈fp,iD X pins H' b)/\R J H'
def PI X tg iter (wi:TI) :=
 ∀ pins s(σ :St) H R,Inv X pins σ H s->wi σ H R ->
  W3 (W8 X.prog X.w) X.A (Yu iter X.env) (λv s1=>W3 (W8 X.prog X.w) X.A (adp v) (QQ X pins σ tg R) X.xe s1) X.xe s
theorem vQ{M : Model}{A : Yk}{E : WC -> WK -> Prop}{s : WK}{tg : XH}{it : W2}{u : WC}{o : Obj}{n : String}{vs : Array WC}{Q : Unit -> WK -> Prop}(ho : s.heap.get? it = Wv o)(hc : o.cls = .type n)(hd : o.data = .fields vs)
    (hn : ["enumerate", "zip", "dict_itemiterator", "dict_reverseitemiterator", "odict_iterator", "itertools.zip_longest", "itertools.pairwise"].contains n = false) (hQ : Q () s) : W3 M A (acw tg (.ref it) u) Q E s := by
  cases tg <;> first
    | exact WI hQ
    | (cases u <;> first
        | exact WI hQ
        | (refine Ww (ZO ho ?_)
           rw [hc, hd]
           show W3 M A (if (["enumerate", "zip", "dict_itemiterator", "dict_reverseitemiterator", "odict_iterator", "itertools.zip_longest", "itertools.pairwise"].contains n && vs[0]? == Wv (ad0 _)) = true then _ else _) Q E s
           rw [if_neg (by intro h; rw [hn] at h; cases h)]
           exact WI hQ))
noncomputable def UQ(K:Wz)(a:W2):It :=
 ⟨λi H=> ∃ xs x,hW K H a xs/\xs[i]?=Wv x,λi H x H'=>H'=H/\ ∀ xs,hW K H a xs->xs[i]?=Wv x,λi H=> ∃ xs,hW K H a xs/\xs.length<=i⟩
noncomputable def Dy(K:Wz)(a:W2):It :=
 ⟨λi H=> ∃ xs x,fw K H a xs/\xs[i]?=Wv x,λi H x H'=>H'=H/\ ∀ xs,fw K H a xs->xs[i]?=Wv x,λi H=> ∃ xs,fw K H a xs/\xs.length<=i⟩
noncomputable def Uq(lo:Int)(n:Nat):It:=⟨λi _=>i < n,λi H x H'=>H'=H/\x= .int (lo+i),λi _=>n<=i⟩
theorem A8{K} a it:Turn P w K tg (UQ K a) [it] it (λi h=>h.IsListIter it a i) where
 mem:=by simp
 obj:=λi h st b hb=>by
  have e:b=it:=by simpa using hb
  subst e;obtain⟨o,e,c,d⟩:=st;exact⟨o,e,λv z=>by rw[d] at z;cases z⟩
 keep:=λi h h' st k=>st.at λo e=>k it (by simp) o e
 item:=by
  intro X hP hw hK hc i pins s σ H E I hf st hg;subst hP hw hK;obtain⟨xs,x,hq,hx⟩:=hg;obtain⟨ak,rv,p,hz⟩:=I.list hq;obtain⟨u,hu,ru⟩:=rv.get hx;obtain⟨f0,f1,f2,f3,f4,f5⟩:=hf it (by simp);refine wpAny_pyNext_list_item st p.isList (x:=u) (by simpa using hu) λh' st' sb=>?_;have I1:=I.turned (t':=s.toks) (λb o hb e=>(sb.2 b hb).trans e) f0 f1 f3 f4 f5;obtain⟨o,e,c,d⟩:=id st';exact⟨u,rfl,vQ (s:={ s with heap:=h'}) e c d (by decide) ⟨x,H,I1,ru,⟨rfl,λys hy=>by rw[I.Ea hy hq];exact hx⟩,st',λb hb=>(hf b hb).1⟩⟩
 done:=by
  intro X hP hw hK hc i pins s σ H E I hf st hg;subst hP hw hK;obtain⟨xs,hq,hx⟩:=hg;obtain⟨ak,rv,p,hz⟩:=I.list hq;obtain⟨f0,f1,f2,f3,f4,f5⟩:=hf it (by simp);have hl:=rv.length;exact wpAny_pyNext_list_end (I.ok.hd hc) st p.isList (by simp;omega) λh' eb=>⟨rfl,I.turned (t':=s.toks) (λb o hb e=>eb b o hb e) f0 f1 f3 f4 f5⟩
 self:=λ_ _ _ _ _ st h=>wpAny_pyIter_listiter st h
theorem zJ{K} a it:Turn P w K tg (Dy K a) [it] it (λi h=>h.IsTupleIter it a i) where
 mem:=by simp
 obj:=λi h st b hb=>by
  have e:b=it:=by simpa using hb
  subst e;obtain⟨o,e,c,d⟩:=st;exact⟨o,e,λv z=>by rw[d] at z;cases z⟩
 keep:=λi h h' st k=>st.at λo e=>k it (by simp) o e
 item:=by
  intro X hP hw hK hc i pins s σ H E I hf st hg;subst hP hw hK;obtain⟨xs,x,hq,hx⟩:=hg;obtain⟨ak,rv,p,hz⟩:=I.tuple hq;obtain⟨u,hu,ru⟩:=rv.get hx;obtain⟨f0,f1,f2,f3,f4,f5⟩:=hf it (by simp);refine wpAny_pyNext_tuple_item st (show s.heap.IsTuple a ak.toArray from p) (x:=u) (by simpa using hu) λh' st' sb=>?_;have I1:=I.turned (t':=s.toks) (λb o hb e=>(sb.2 b hb).trans e) f0 f1 f3 f4 f5;obtain⟨o,e,c,d⟩:=id st';exact⟨u,rfl,vQ (s:={ s with heap:=h'}) e c d (by decide) ⟨x,H,I1,ru,⟨rfl,λys hy=>by rw[I.jW hy hq];exact hx⟩,st',λb hb=>(hf b hb).1⟩⟩
 done:=by
  intro X hP hw hK hc i pins s σ H E I hf st hg;subst hP hw hK;obtain⟨xs,hq,hx⟩:=hg;obtain⟨ak,rv,p,hz⟩:=I.tuple hq;obtain⟨f0,f1,f2,f3,f4,f5⟩:=hf it (by simp);have hl:=rv.length;exact wpAny_pyNext_tuple_end (I.ok.hd hc) st (show s.heap.IsTuple a ak.toArray from p) (by simp;omega) λh' eb=>⟨rfl,I.turned (t':=s.toks) (λb o hb e=>eb b o hb e) f0 f1 f3 f4 f5⟩
 self:=λ_ _ _ _ _ st h=>wpAny_pyIter_tupleiter st h
theorem yq{K} it lo n:Turn P w K tg (Uq lo n) [it] it (λi h=>IsRangeIter h it (lo+(i)*1) ((n) - (i)) 1) where
 mem:=by simp
 obj:=λi h st b hb=>by
  have e:b=it:=by simpa using hb
  subst e;exact⟨_,st,λv z=>by
   have z':=z;cases z'⟩
 keep:=λi h h' st k=>k it (by simp) _ st
 item:=by
  intro X hP hw hK hc i pins s σ H E I hf st hg;subst hP hw hK;obtain⟨f0,f1,f2,f3,f4,f5⟩:=hf it (by simp);have W:=Walks.range (prog:=X.prog) (w:=X.w) (I.ok.hd hc) it lo 1 n;refine W.item i s _ _ hg st λv h' tk hv st' kk=>?_;obtain⟨t,rfl⟩:=hv;have I1:Inv X pins σ H { s with heap:=h',toks:=tk}:=I.turned (λb o hb e=>kk b o (by simpa using hb) e) f0 f1 f3 f4 f5;refine⟨_,rfl,vQ (s:={ s with heap:=h',toks:=tk}) (n:= "range_iterator") st' rfl rfl (by decide) ⟨.int (lo+i),H,I1,⟨t,?_⟩,⟨rfl,rfl⟩,st',λb hb=>(hf b hb).1⟩⟩;rw[Int.mul_one]
 done:=by
  intro X hP hw hK hc i pins s σ H E I hf st hg;obtain⟨f0,f1,f2,f3,f4,f5⟩:=hf it (by simp);exact wpAny_pyNext_range_end (I.ok.hd hc) st (by have:n<=i:=hg;omega) λh' eb=>⟨rfl,I.turned (t':=s.toks) (λb o hb e=>eb b o hb e) f0 f1 f3 f4 f5⟩
 self:=λ_ _ _ _ _ st h=>wpAny_pyIter_rangeiter st h
section
variable{X:Cx}{tg:XH}
theorem Ft{pins:List (W2 × Obj)}{σ :St}{H:Hp}{s:WK}{R:It->Hp->Prop}{E:WC->WK->Prop}{lo hi:Int}{t u v:Tok}{tk:Nat}(I:Inv X pins σ H s)(h1: -(2 ^ 62)<=lo)(h2:lo < 2 ^ 62)(h3: -(2 ^ 62)<=hi)(h4:hi < 2 ^ 62)
  (q:R (Uq lo (hi - lo).toNat) H):W3 (W8 X.prog X.w) X.A (adp (.ref s.heap.objs.size)) (QQ X pins σ tg R) E { s with heap:=s.heap.push { cls:= .type "range",data:= .fields #[.int lo t,.int hi u,.int 1 v]},toks:=tk}:=by
 refine wpAny_pyIter_range (aeJ ..) (small_one h1 h2 h3 h4) ?_;have I1:Inv X pins σ H { s with heap:=s.heap.push { cls:= .type "range",data:= .fields #[.int lo t,.int hi u,.int 1 v]},toks:=tk}:=I.kept λb o e=>WB _ e;refine⟨(s.heap.push { cls:= .type "range",data:= .fields #[.int lo t,.int hi u,.int 1 v]}).objs.size,[(s.heap.push { cls:= .type "range",data:= .fields #[.int lo t,.int hi u,.int 1 v]}).objs.size],_,_,H,rfl,
  I1.kept (t':=tk) λb o e=>WB _ e,yq _ lo (hi - lo).toNat,?_,λb hb=>?_,q⟩
 . have e1:lo+((0:Nat))*1=lo:=by simp
   have e2:(((hi - lo).toNat)) - ((0:Nat))=ab0 lo hi 1:=by rw[rangeSize_one];split<;>omega
   rw[e1,e2];exact WS _ rfl
 . have e:b=(s.heap.push { cls:= .type "range",data:= .fields #[.int lo t,.int hi u,.int 1 v]}).objs.size:=by simpa using hb
   subst e;exact I1.yy (WG _) (I1.bA.fresh (WG _))
def Td(ta:TA):TI:=fun σ H R=>ta σ H λvs H1=> ∃ j ,vs=[.int j]/\ -(2 ^ 62)<=j/\j < 2 ^ 62/\R (Uq 0 j.toNat) H1
theorem Cd(hg:Gl X "range")(hm:X.mg "range" =Wx)(ha:PA X [a] ta)(hs:Xp [a] X.env=[(false,Yu a X.env)]:=by rfl):PI X tg (.Call (.Name "range" p) [a] [] pos) (Td ta):=by
 intro pins s σ H R I h;refine Call_ (gY I hg hm boot_range (XI (Bm (ha pos pins s σ H _ I h) λus s1 vs H1 I1 r1 q1=>?_) hs rfl));obtain⟨j,e,q1,q2,q⟩:=q1;subst e;cases r1 with
 | cons r rr =>
  cases rr
  obtain⟨t,rfl⟩:=r
  exact call_range_1 (Ft I1 (by omega) (by omega) q1 q2 (by simpa using q))
noncomputable def Ru(wi:TI)(g:TG)(tb:TS):TS:=λD σ H=>wi σ H λJ H1=> ∃ W:Nat->Nat->St->Hp->Prop,(∃ m,W 0 m σ H1)/\ ∀ i m σ H,W i m σ H ->
 (J.stop i H/\D.nx σ H)\/(J.go i H/\ ∃ N ,(∀ σ' H',N σ' H'-> ∃ m',m' < m/\W (i+1) m' σ' H')/\ ∀ x H',J.Kz i H x H'->g x σ H' fun σ2 H2=>tb { D with nx:=N,ct:=N,bk:=D.nx} σ2 H2)
noncomputable def uh(fp:List W2)(h:X8):=fp.filterMap λb=>(h.get? b).map λo=>(b,o)
theorem eN(hb:b∈fp)(e:h.get? b=Wv o):(b,o)∈uh fp h:=adq.mpr ⟨b,hb,by rw[e];rfl⟩
theorem Bk(hp:p∈uh fp h):p.1∈fp/\h.get? p.1=Wv p.2:=by
 obtain⟨b,hb,e⟩:=adq.mp hp;cases q:h.get? b with
 | none=>rw[q] at e;cases e
 | some o =>
  rw[q] at e
  have e':=Xx e
  subst e'
  exact⟨hb,q⟩
theorem Inv.pinned{σ :St}(I:Inv X pins σ H s)(hf: ∀ b∈fp,iD X pins H b)(ho: ∀ b∈fp,∃ o,s.heap.get? b=Wv o/\ ∀ v,o.data≠ .cell v):Inv X (pins++uh fp s.heap) σ H s :=
 I.jT λp hp=>(XJ.mp hp).elim (λz=>I.pin p (Xd _ z)) λz=>by
  obtain⟨hb,e⟩:=Bk z;obtain⟨f0,f1,f2,_⟩:=hf p.1 hb;obtain⟨o,e',d⟩:=ho p.1 hb;rw[e] at e';cases e';exact⟨e,f0,f1,f2,d⟩
theorem Inv.qL{σ :St}(I:Inv X (pins++pl) σ H s):Inv X pins σ H s:=I.jT λp hp=>I.pin p (Xd _ (ZN _ hp))
theorem N4(hp:abZ (W8 X.prog X.w) X.A X.env X.xe)(hc:X.calm=true)(hi:PI X tg iter wi)(hg:PG X tg g)(hb:xI X body tb)
  (hs: ∀ x,XM iter X.env x=pure x:=by intro _;rfl):PS X (.For tg iter body [] pos) (Ru wi g tb):=by
 intro pins s σ H D I h;refine wpAny_For (oI (hi pins s σ H _ I h) λv s1 h1=>oI h1 λitv s2 h2=>?_) hs;obtain ⟨it,fp,tn,J,H2,e,I2,T,st2,f2,W,⟨m0,w0⟩,turn⟩:=h2;subst e;have stat: ∀{H':Hp},(∀ b∈fp,H' b=Wx)-> ∀ b∈fp,iD X pins H' b:=λhn b hb=>⟨hn b hb,(f2 b hb).2⟩
 refine codeAny_forLoop_any (λn s'=> ∃ i σ' H',Inv X pins σ' H' s'∧tn i s'.heap∧(∀ b∈fp,H' b=Wx)∧W i n σ' H') ?_ m0 ⟨0, σ,H2,I2,st2,λb hb=>(f2 b hb).1,w0⟩;rintro n s3 ⟨i, σ3,H3,I3,mO,fr3,w3⟩;rcases turn i n σ3 H3 w3 with ⟨stop,qn⟩ | ⟨go,N,hN,step⟩
 . refine Y8 hp (oI (T.done X rfl rfl rfl hc i pins s3 σ3 H3 X.xe I3 (stat fr3) mO stop) λr s4 z9=>?_);obtain ⟨hr,I4⟩:=z9;subst hr;exact aag ⟨σ3,H3,I4,qn⟩
 . refine Y8 hp (oI (T.item X rfl rfl rfl hc i pins s3 σ3 H3 X.xe I3 (stat fr3) mO go) λr s4 z9=>?_);obtain⟨u,hr,h4⟩:=z9;subst hr;refine Y8 hp (oI h4 λ_ s5 z9=>?_);obtain⟨x,H5,I5,r5,y5,st5,fr5⟩:=z9;have I5':=I5.pinned (stat fr5) (T.obj _ _ st5);refine Y8 hp (oI (hg _ s5 σ3 H5 x u _ I5' r5 (step x H5 y5)) λ_ s6 z9=>?_);obtain⟨σ6,H6,I6,q6⟩:=z9;refine Y8 hp (oI (hb _ s6 σ6 H6 _ I6 q6) λf s7 q7=>?_);have again: ∀{σ7:St}{H7:Hp},Inv X (pins++uh fp s5.heap) σ7 H7 s7->N σ7 H7-> ∃ m,m < n∧ ∃ i σ' H',Inv X pins σ' H' s7∧tn i s7.heap∧(∀ b∈fp,H' b=Wx)∧W i m σ' H':=λ{σ7 H7} I7 n7=>by
    obtain ⟨m',hm,w7⟩:=hN σ7 H7 n7;refine ⟨m',hm,i+1, σ7,H7,I7.qL,T.keep _ _ _ st5 λb hb o e=>(I7.pin (b,o) (Xd _ (Xd _ (eN hb e)))).1,λb hb=>?_,w7⟩;obtain ⟨o,e,d⟩:=T.obj _ _ st5 b hb;exact (I7.pin (b,o) (Xd _ (Xd _ (eN hb e)))).2.1
   cases f with
   | next=>obtain ⟨σ7,H7,I7,n7⟩:=q7;exact again I7 n7
   | cont=>obtain ⟨σ7,H7,I7,n7⟩:=q7;exact again I7 n7
   | brk=>obtain ⟨σ7,H7,I7,q7⟩:=q7;exact ⟨σ7,H7,I7.qL,q7⟩
   | ret v=>obtain ⟨x7, σ7,H7,I7,r7,q7⟩:=q7;exact ⟨x7, σ7,H7,I7.qL,r7,q7⟩
end
abbrev R2:=V->V->Hp->VK->Prop
def cZ X (f:WC->WC->Sem WC) (r:R2) :=
 ∀ pins s(σ :St) H x y v u Q,Inv X pins σ H s->RelV x v->RelV y u->r x y H Q ->
  W3 (W8 X.prog X.w) X.A (f v u) (EP X pins σ Q) X.xe s
def aS X (f:WC) (r:List V->Hp->VK->Prop) :=
 ∀ pins s(σ :St) H xs us Q,Inv X pins σ H s->Vals xs us->r xs H Q ->
  W3 (W8 X.prog X.w) X.A (call f us) (EP X pins σ Q) X.xe s
noncomputable def Je(r:R2)(ta tb:TE):TE:=fun σ H Q=>ta σ H λx H1=>tb σ H1 λy H2=>r x y H2 Q
noncomputable def rI(C:Int->Int->Prop)(g:Int->Int->V):R2:=λx y H Q=> ∃ i j,x= .int i/\y= .int j/\C i j/\Q (g i j) H
noncomputable def Gg(g:Int->Int->V):R2:=λx y H Q=> ∃ i j,x= .int i/\y= .int j/\Q (g i j) H
section
variable{X:Cx}{a b c:XH}{ta tb tc:TE}{pos:Pos}
theorem Oa(ha:PE X a ta)(hb:PE X b tb){σ :St}{R:V->V->Hp->Prop}(I:Inv X pins σ H s)
  (h:ta σ H λx H1=>tb σ H1 λy H2=>R x y H2) {f:WC->WC->Sem WC}
  (hf: ∀ v u s2 x y H2,Inv X pins σ H2 s2->RelV x v->RelV y u->R x y H2->W3 (W8 X.prog X.w) X.A (f v u) Q X.xe s2) :
  W3 (W8 X.prog X.w) X.A (Yu a X.env) (λv s₁ =>W3 (W8 X.prog X.w) X.A (Yu b X.env) (λu s₂ =>W3 (W8 X.prog X.w) X.A (f v u) Q X.xe s₂) X.xe s₁) X.xe s:=by
 refine hV (ha pins s σ H _ I h) λv s1 x H1 I1 r1 q1=>?_;refine hV (hb pins s1 σ H1 _ I1 q1) λu s2 y H2 I2 r2 q2=>?_;exact hf v u s2 x y H2 I2 r1 r2 q2
theorem Q1(ho:cZ X (Yg op) r)(ha:PE X a ta)(hb:PE X b tb):PE X (.BinOp a op b pos) (Je r ta tb):=by
 intro pins s σ H Q I h;exact wpAny_BinOp (Oa ha hb I h λv u s2 x y H2 I2 rx ry q=>ho pins s2 σ H2 x y v u Q I2 rx ry q)
theorem TZ{f:WC->WC->Sem WC}{C:Int->Int->Prop}{g:Int->Int->Int}
  (rule: ∀(i j:Int)(t u:Tok)(s:WK)(Q:WC->WK->Prop)(E:WC->WK->Prop),C i j->Q (.int (g i j) s.toks) { s with toks:=s.toks+1}->W3 (W8 X.prog X.w) X.A (f (.int i t) (.int j u)) Q E s) :
  cZ X f (rI C λi j=> .int (g i j)):=by
 intro pins s σ H x y v u Q I rx ry h;obtain⟨i,j,rfl,rfl,hc,q⟩:=h;obtain⟨t,rfl⟩:=rx;obtain⟨t',rfl⟩:=ry;exact rule i j t t' s _ _ hc ⟨.int (g i j),H,I.tok _,⟨_,rfl⟩,q⟩
theorem Tg{f:WC->WC->Sem WC}{g:Int->Int->Int}
  (rule: ∀(i j:Int)(t u:Tok)(s:WK)(Q:WC->WK->Prop)(E:WC->WK->Prop),Q (.int (g i j) s.toks) { s with toks:=s.toks+1}->W3 (W8 X.prog X.w) X.A (f (.int i t) (.int j u)) Q E s) :
  cZ X f (Gg λi j=> .int (g i j)):=by
 intro pins s σ H x y v u Q I rx ry h;obtain⟨i,j,rfl,rfl,q⟩:=h;obtain⟨t,rfl⟩:=rx;obtain⟨t',rfl⟩:=ry;exact rule i j t t' s _ _ ⟨.int (g i j),H,I.tok _,⟨_,rfl⟩,q⟩
theorem JX{f:WC->WC->Sem WC}{g:Int->Int->Bool}
  (rule: ∀(i j:Int)(t u:Tok)(s:WK)(Q:WC->WK->Prop)(E:WC->WK->Prop),Q (.bool (g i j)) s->W3 (W8 X.prog X.w) X.A (f (.int i t) (.int j u)) Q E s) :
  cZ X f (Gg λi j=> .bl (g i j)):=by
 intro pins s σ H x y v u Q I rx ry h;obtain⟨i,j,rfl,rfl,q⟩:=h;obtain⟨t,rfl⟩:=rx;obtain⟨t',rfl⟩:=ry;exact rule i j t t' s _ _ ⟨.bl (g i j),H,I,rfl,q⟩
def Vc(i j:Int):=0 < j/\j < 1073741824
def UE(i j:Int):=0<=j/\j<=1000000/\i.natAbs < 2 ^ 64
def Mb i j:=(-(2 ^ 64) < i/\i < 2 ^ 64)\/(-(2 ^ 64) < j/\j < 2 ^ 64)
theorem Mb.ok(h:Mb i j):IntMulOk i j:=by
 rcases h with⟨h1,h2⟩ | ⟨h1,h2⟩
 . exact .of_left (intBits_le_64 h1 h2)
 . exact .of_right (intBits_le_64 h1 h2)
theorem OX:cZ X (Yg .Add) (Gg λi j=> .int (i+j)):=Tg λ_ _ _ _ _ _ _ q=>add_int q
theorem Nc:cZ X (Yg .Sub) (Gg λi j=> .int (i - j)):=Tg λ_ _ _ _ _ _ _ q=>sub_int q
theorem NP:cZ X (Yg .Mult) (rI Mb λi j=> .int (i*j)):=TZ λ_ _ _ _ _ _ _ hc q=>mul_int q hc.ok
theorem Ko:cZ X (Yg .FloorDiv) (rI Vc λi j=> .int (i / j)):=TZ λi j _ _ _ _ _ hc q=>by
 have h1:=hc.1;have h2:=hc.2;exact floordiv_int (by omega) (by rw[Int.fdiv_eq_ediv_of_nonneg i (by omega)];exact q) (.inl (PyProof.noPylong_small (by omega)))
theorem O5:cZ X (Yg .Mod) (rI (λ_ j=>0 < j) λi j=> .int (i % j)):=TZ λi j _ _ _ _ _ hc q=>by
 exact mod_int' (by omega) (by rw[Int.fmod_eq_emod_of_nonneg i (by omega)];exact q)
theorem Oz:cZ X (Yg .Pow) (rI UE λi j=> .int (i ^ j.toNat)):=TZ λ_ _ _ _ _ _ _ hc q=>pow_int_small hc.1 hc.2.1 hc.2.2 q
end
noncomputable def GI:V->V->Bool
 | .non,.non=>true | .non,.int _=>true | .int _,.non=>true | .non,.bl _=>true | .bl _,.non=>true | .non,.str _=>true | .str _,.non=>true
 | .int _,.int _=>true | .bl _,.bl _=>true | .str _,.str _=>true | .byt _,.byt _=>true
 | .int _,.str _=>true | .str _,.int _=>true | .bl _,.str _=>true | .str _,.bl _=>true
 | _,_=>false
def Wr:R2:=λx y H Q=>GI x y=true/\Q (.bl (decide (x=y))) H
def We:R2:=λx y H Q=>GI x y=true/\Q (.bl (!decide (x=y))) H
theorem Al:decide (V.int i=V.int j)=(i == j):=by
 rw[aah];simp
theorem Eu:decide (V.bl i=V.bl j)=(i == j):=by
 rw[aah];simp
theorem Ao:decide (V.str i=V.str j)=(i == j):=by
 rw[aah];simp
theorem AD:decide (V.byt i=V.byt j)=(i.toList == j.toList):=by
 rw[aah];cases i;cases j;simp
section
variable{X:Cx}{a b c:XH}{ta tb tc:TE}{pos:Pos}
theorem bg{pins:List (W2 × Obj)}{σ :St}{H:Hp}{s:WK}{Q:VK}{k k':Bool}(I:Inv X pins σ H s)(q:Q (.bl k) H)(e:k=k'):EP X pins σ Q (.bool k') s:=by
 subst e;exact⟨.bl k,H,I,rfl,q⟩
theorem Q5:cZ X (Xh .Eq) Wr:=by
 intro pins s σ H x y v u Q I rx ry h;obtain⟨hs,q⟩:=h;cases x with
 | non =>
  cases rx
  cases y with
  | non=>cases ry;exact PySem.EqNone.eq_none_none (bg I q (by simp))
  | bl j=>cases ry;exact PySem.EqNone.eq_none_bool (bg I q (by simp))
  | int j=>obtain⟨t',rfl⟩:=ry;exact PySem.EqNone.eq_none_int (bg I q (by simp))
  | str j=>obtain⟨t',rfl⟩:=ry;exact PySem.EqNone.eq_none_str (bg I q (by simp))
  | _=>exact absurd (show false=true from hs) W5
 | bl i =>
  cases rx
  cases y with
  | non=>cases ry;exact PySem.EqNone.eq_bool_none (bg I q (by simp))
  | bl j=>cases ry;exact eq_bool (bg I q Eu)
  | str j=>obtain⟨t',rfl⟩:=ry;exact PySem.EqMixed.eq_bool_str (bg I q (by simp))
  | _=>exact absurd (show false=true from hs) W5
 | int i =>
  obtain⟨t,rfl⟩:=rx
  cases y with
  | non=>cases ry;exact PySem.EqNone.eq_int_none (bg I q (by simp))
  | int j=>obtain⟨t',rfl⟩:=ry;exact eq_int (bg I q Al)
  | str j=>obtain⟨t',rfl⟩:=ry;exact PySem.EqMixed.eq_int_str (bg I q (by simp))
  | _=>exact absurd (show false=true from hs) W5
 | str i =>
  obtain⟨t,rfl⟩:=rx
  cases y with
  | non=>cases ry;exact PySem.EqNone.eq_str_none (bg I q (by simp))
  | bl j=>cases ry;exact PySem.EqMixed.eq_str_bool (bg I q (by simp))
  | int j=>obtain⟨t',rfl⟩:=ry;exact PySem.EqMixed.eq_str_int (bg I q (by simp))
  | str j=>obtain⟨t',rfl⟩:=ry;exact eq_str (bg I q Ao)
  | _=>exact absurd (show false=true from hs) W5
 | byt i =>
  obtain⟨t,rfl⟩:=rx
  cases y with
  | byt j=>obtain⟨t',rfl⟩:=ry;exact PySem.W.eq_bytes (bg I q AD)
  | _=>exact absurd (show false=true from hs) W5
 | _=>cases y<;>exact absurd (show false=true from hs) W5
theorem RT:cZ X (Xh .NotEq) We:=by
 intro pins s σ H x y v u Q I rx ry h;obtain⟨hs,q⟩:=h;cases x with
 | non =>
  cases rx
  cases y with
  | non=>cases ry;exact PySem.EqNone.ne_none_none (bg I q (by simp))
  | bl j=>cases ry;exact PySem.EqNone.ne_none_bool (bg I q (by simp))
  | int j=>obtain⟨t',rfl⟩:=ry;exact PySem.EqNone.ne_none_int (bg I q (by simp))
  | str j=>obtain⟨t',rfl⟩:=ry;exact PySem.EqNone.ne_none_str (bg I q (by simp))
  | _=>exact absurd (show false=true from hs) W5
 | bl i =>
  cases rx
  cases y with
  | non=>cases ry;exact PySem.EqNone.ne_bool_none (bg I q (by simp))
  | bl j=>cases ry;exact ne_bool (bg I q (congrArg not Eu))
  | str j=>obtain⟨t',rfl⟩:=ry;exact PySem.EqMixed.ne_bool_str (bg I q (by simp))
  | _=>exact absurd (show false=true from hs) W5
 | int i =>
  obtain⟨t,rfl⟩:=rx
  cases y with
  | non=>cases ry;exact PySem.EqNone.ne_int_none (bg I q (by simp))
  | int j=>obtain⟨t',rfl⟩:=ry;exact ne_int (bg I q (congrArg not Al))
  | str j=>obtain⟨t',rfl⟩:=ry;exact PySem.EqMixed.ne_int_str (bg I q (by simp))
  | _=>exact absurd (show false=true from hs) W5
 | str i =>
  obtain⟨t,rfl⟩:=rx
  cases y with
  | non=>cases ry;exact PySem.EqNone.ne_str_none (bg I q (by simp))
  | bl j=>cases ry;exact PySem.EqMixed.ne_str_bool (bg I q (by simp))
  | int j=>obtain⟨t',rfl⟩:=ry;exact PySem.EqMixed.ne_str_int (bg I q (by simp))
  | str j=>obtain⟨t',rfl⟩:=ry;exact ne_str (bg I q (congrArg not Ao))
  | _=>exact absurd (show false=true from hs) W5
 | byt i =>
  obtain⟨t,rfl⟩:=rx
  cases y with
  | byt j=>obtain⟨t',rfl⟩:=ry;exact PySem.W.ne_bytes (bg I q (congrArg not AD))
  | _=>exact absurd (show false=true from hs) W5
 | _=>cases y<;>exact absurd (show false=true from hs) W5
theorem RM:cZ X (Xh .Lt) (Gg λi j=> .bl (decide (i < j))):=JX λ_ _ _ _ _ _ _ q=>lt_int q
theorem QN:cZ X (Xh .LtE) (Gg λi j=> .bl (decide (i<=j))):=JX λ_ _ _ _ _ _ _ q=>le_int q
theorem TB:cZ X (Xh .Gt) (Gg λi j=> .bl (decide (j < i))):=JX λ_ _ _ _ _ _ _ q=>gt_int q
theorem RL:cZ X (Xh .GtE) (Gg λi j=> .bl (decide (j<=i))):=JX λ_ _ _ _ _ _ _ q=>ge_int q
theorem Bx:cZ X (Xh .In) (λx y H Q=> ∃ i j,x= .str i/\y= .str j/\Q (.bl (!(Zj j i 0 j.length 1).isEmpty)) H):=by
 intro pins s σ H x y v u Q I rx ry h;obtain⟨i,j,rfl,rfl,q⟩:=h;obtain⟨t,rfl⟩:=rx;obtain⟨t',rfl⟩:=ry;exact in_str (bg I q rfl)
theorem cZ.or(h:cZ X f r)(h':cZ X f r'):cZ X f (λx y H Q=>r x y H Q\/r' x y H Q):=by
 intro pins s σ H x y v u Q I rx ry q;rcases q with q | q
 . exact h pins s σ H x y v u Q I rx ry q
 . exact h' pins s σ H x y v u Q I rx ry q
theorem Eo b (h:op≠ .In:=by decide) (h2:op≠ .NotIn:=by decide):Yl op b=false:=by
 have e1:(op == CmpOp.In)=false:=by cases op<;>first | rfl | exact absurd rfl h
 have e2:(op == CmpOp.NotIn)=false:=by cases op<;>first | rfl | exact absurd rfl h2
 cases b<;>simp[Yl,e1,e2]
theorem J6(ho:cZ X (Xh op) r)(ha:PE X a ta)(hb:PE X b tb)(hm:Yl op b=false):PE X (.Compare a [op] [b] pos) (Je r ta tb):=by
 intro pins s σ H Q I h;exact wpAny_Compare1 (Oa ha hb I h λv u s2 x y H2 I2 rx ry q=>ho pins s2 σ H2 x y v u Q I2 rx ry q) hm
noncomputable def FO(t:TE):TT:=fun σ H Q=>t σ H λx H'=> ∃ k,x= .bl k/\Q k H'
theorem J7(ho:cZ X (Xh op) r)(ha:PE X a ta)(hb:PE X b tb)(hm:Yl op b=false):PT X (.Compare a [op] [b] pos) (FO (Je r ta tb)):=by
 intro pins s σ H Q I h;refine acD (hV (ha pins s σ H _ I h) λv s1 x H1 I1 r1 q1=>hV (hb pins s1 σ H1 _ I1 q1) λu s2 y H2 I2 r2 q2 =>
  hV (ho pins s2 σ H2 x y v u _ I2 r1 r2 q2) λc s3 z H3 I3 r3 ⟨k,e,q3⟩=>?_) hm
 subst e;cases r3;exact Yx ⟨H3,I3,q3⟩
noncomputable def y6(r r':R2)(ta tb tc:TE):TE:=fun σ H Q=>ta σ H λx H1=>tb σ H1 λy H2=>r x y H2 λz H3=> ∃ k,z= .bl k /\
 (if k=true then tc σ H3 λw' H4=>r' y w' H4 Q else Q (.bl false) H3)
theorem EM(ho:cZ X (Xh op) r)(ho':cZ X (Xh op') r')(ha:PE X a ta)(hb:PE X b tb)(hc:PE X c tc)
  (hm:lastMarks [op,op'] [b,c]=false:=by with_unfolding_all rfl):PE X (.Compare a [op,op'] [b,c] pos) (y6 r r' ta tb tc):=by
 intro pins s σ H Q I h;refine Compare_chain (hV (ha pins s σ H _ I h) λv s1 x H1 I1 r1 q1=>chain_link (hV (hb pins s1 σ H1 _ I1 q1) λu s2 y H2 I2 r2 q2 =>
  hV (ho pins s2 σ H2 x y v u _ I2 r1 r2 q2) λd s3 z H3 I3 r3 ⟨k,e,q3⟩=>?_)) hm
 subst e;cases r3;refine Yx ?_;cases k with
 | false=>exact ite_ff ⟨.bl false,H3,I3,rfl,q3⟩
 | true=>exact ite_tt (chain_last (hV (hc pins s3 σ H3 _ I3 q3) λw' s4 z' H4 I4 r4 q4=>ho' pins s4 σ H4 y z' u w' Q I4 r2 r4 q4))
theorem kE:(WJ) < 2 ^ 63:=by decide
theorem vals1(r:Vals [x] us): ∃ u,us=[u]/\RelV x u:=by
 cases r with
 | cons r1 r2=>cases r2;exact⟨_,rfl,r1⟩
theorem vals2(r:Vals [x,y] us): ∃ u w',us=[u,w']/\RelV x u/\RelV y w':=by
 cases r with
 | cons r1 r2 =>
  cases r2 with
  | cons r3 r4=>cases r4;exact⟨_,_,rfl,r1,r3⟩
theorem Cm:aS X (.type "int") (λxs H Q=>(∃ i,xs=[.int i]/\Q (.int i) H)\/ ∃ k,xs=[.bl k]/\Q (.int (if k then 1 else 0)) H):=by
 intro pins s σ H xs us Q I r h;rcases h with⟨i,rfl,q⟩ | ⟨k,rfl,q⟩
 . obtain⟨u,rfl,t,rfl⟩:=vals1 r;exact call_int_int ⟨.int i,H,I,⟨_,rfl⟩,q⟩
 . obtain⟨u,rfl,r1⟩:=vals1 r;cases r1;exact call_int_bool ⟨.int (if k then 1 else 0),H,I.tok _,⟨_,rfl⟩,q⟩
end
structure MC(h:X8)(x dx C:W2)(mA:Str->Option WC):Prop where
 obj:h.get? x=Wv (Y7 C dx)
 ns:h.Ns1 dx mA
 ne:dx≠x
theorem Cv{h:X8}(n:h.Ns1 dx mA): ∃ od,h.get? dx=Wv od/\ ∀ name,acM name od=Wv (mA name):=by
 obtain⟨o,es,ep,ho,hd,hk,_,hm⟩:=n;refine⟨o,ho,λname=>?_⟩;have e:=hm name;unfold nsFind findBy at e;rw[<- Array.find?_toList] at e;unfold acM;rw[hd];dsimp only;split
 . rename_i y q;rw[q] at e;exact congrArg Wv e
 . rename_i q;rw[q] at e;have a:es.toList.any (·.refKey)=false:=by
    rw[List.any_eq_false];intro y hy;obtain⟨z,t,hkey⟩:=hk y (Array.mem_toList_iff.mp hy);simp[DictEntry.refKey,hkey]
   have a': ¬ es.toList.any (·.refKey)=true:=by rw[a];exact W5
   rw[if_neg a'];exact congrArg Wv e
theorem MC.look(I:MC h x dx C mA): ∃ od,PySem.W.InstAt h x (Y7 C dx) C (Wv od)/\ ∀ name,acM name od=Wv (mA name) :=
 by obtain⟨od,ho,hl⟩:=Cv I.ns;exact⟨od,⟨I.obj,rfl,rfl,ho⟩,hl⟩
theorem mJ.some_of(r:mJ (Wv v) o): ∃ u,o=Wv u/\RelV v u:=by
 cases o with
 | none=>exact(show False from r).elim
 | some u=>exact⟨u,rfl,r⟩
section
variable{P:Xy}{w:X0}{H H':Hp}{h h':X8}{a C dx:W2}{fs fs':List (Str × V)}
theorem GL(bA:kf P w H h)(e:H a=Wv (.ins C dx fs)): ∃ mA,MC h a dx C mA/\(∀ f,mJ (fs.lookup f) (mA f))/\aeD mA (fs.map (·.1))/\fs.length<=1000/\H dx=Wv (.own a):=by
 obtain⟨d,z,ne,ob,mA,n,r,q⟩:=(show aW P w H h a (.ins C dx fs) from bA a _ e)
 exact⟨mA,⟨ob,n,ne⟩,r,q,z,d⟩
end
structure U8(K:Wz)(C:W2):Prop where
 pg:ad3 K C Str.empty=true
 hd:PySem.W.hasDictIn K C=true
 po:PySem.W.plainOver K C=true
 sa:aav K (.ref C) "__setattr__" =Wv (Wv (.builtin "object.__setattr__"))
theorem U8.get{K}(c:U8 K C) f:ad3 K C f=true:=c.pg
structure Wu(K:Wz)(C:W2)(f:Str)(v:V)(u:WC):Prop where
 at_:aav K (.ref C) f=Wv (Wv u)
 rel:RelV v u
 get:adE K u "__get__" =Wv Wx
 cp:PySem.W.copiedNames.contains f=false
structure Meth(K:Wz)(C:W2)(m:Str)(f:W2):Prop where
 at_:aav K (.ref C) m=Wv (Wv (.ref f))
 fn:aeF K (.ref f)=true
 kp:Zk K (.ref f)=true
section
variable{X:Cx}{pins:List (W2 × Obj)}{σ :St}{H:Hp}{s:WK}{a C dx:W2}{fs:List (Str × V)}{f:Str}{v:V}{A:Yk}{E:WC->WK->Prop}
theorem Inv.made(I:Inv X pins σ H s):Inv X pins σ (upd (upd H s.heap.objs.size (.own (s.heap.objs.size+1))) (s.heap.objs.size+1) (.ins C s.heap.objs.size []))
  { s with heap:=(s.heap.push Yy).push (Y7 C s.heap.objs.size)}:=by
 have e1:(s.heap.push Yy).get? s.heap.objs.size=Wv Yy:=WS s.heap rfl;have e2:((s.heap.push Yy).push (Y7 C s.heap.objs.size)).get? (s.heap.objs.size+1)=Wv (Y7 C s.heap.objs.size):=by
  have:=WS (s.heap.push Yy) (o:=Y7 C s.heap.objs.size) rfl
  rwa [XT] at this
 have e3:(s.heap.push Yy).Ns s.heap.objs.size (λ_=>Wx):=⟨Yy, #[],_,e1,rfl,(λe he=>absurd he (by simp)),λ_=>rfl⟩
 have I1:=I.laid (a:=s.heap.objs.size) (o:= .own (s.heap.objs.size+1)) (h':=s.heap.push Yy) (t':=s.toks) (λb u q=>WB _ q) (WG _) ⟨_,e1⟩;refine I1.laid (a:=s.heap.objs.size+1) (o:= .ins C s.heap.objs.size []) (t':=s.toks) (λb u q=>WB _ q) (Nat.le_of_eq (XT _ _)) ?_;have ne:s.heap.objs.size≠s.heap.objs.size+1:=W7 (ZS _);refine⟨by rw[ax ne,aX],Xv _,ne,e2,λ_=>Wx,(Heap.Ns1.of_empty e3).at λo q=>WB _ q,λ_=>Y4,λy hy=>absurd rfl hy⟩
end
section
variable{X:Cx}{pins:List (W2 × Obj)}{σ :St}{H:Hp}{s:WK}{A:Yk}{E:WC->WK->Prop}{Q:WC->WK->Prop}{c:WC}{b:Bool}
inductive j8(K:Wz)(H:Hp):V->WC->Prop where
 | non:j8 K H .non (.type "NoneType")
 | bl (x:Bool):j8 K H (.bl x) (.type "bool")
 | int (i:Int):j8 K H (.int i) (.type "int")
 | str (x:Str):j8 K H (.str x) (.type "str")
 | flt (x:UInt64):j8 K H (.flt x) (.type "float")
 | lst {a:W2} {xs:List V} (e:H a=Wv (.lst xs)):j8 K H (.ref a) (.type "list")
 | kU {a:W2} {o:Obj} {xs:List V} (e:H a=Wv (.kU o (.lst xs))):j8 K H (.ref a) (.type "list")
 | tup {a:W2} {xs:List V} (e:H a=Wv (.tup xs)):j8 K H (.ref a) (.type "tuple")
 | dK {a:W2} {kvs:List (Key × V)} (e:H a=Wv (.dK kvs)):j8 K H (.ref a) (.type "dict")
 | dT {a:W2} {kvs:List (List Key × V)} (e:H a=Wv (.dT kvs)):j8 K H (.ref a) (.type "dict")
 | ins {a C dx:W2} {fs:List (Str × V)} (e:H a=Wv (.ins C dx fs)) (cl:U8 K C) (ha:aav K (.ref C) "__class__" =Wv (Wv (.builtin "object.__class__")))
   (hn:adE K (.builtin "object.__class__") "__get__" =Wv (Wv (.builtin "getset_descriptor.__get__"))) (htk:PySem.W.takesIn K (.builtin "object.__class__")=Wv true)
   (hm:PySem.W.mroIn K C (.type "object")=Wv true):j8 K H (.ref a) (.ref C)
theorem Bh{x:V}{u t:WC}(I:Inv X pins σ H s)(rx:RelV x u)(ty:j8 X.K H x t)(e:abi X.K t c=Wv b)(h: ∀ tk,Q (.bool b) { s with toks:=tk}) :
  W3 (W8 X.prog X.w) A (call (.builtin "isinstance") [u,c]) Q E s:=by
 cases ty with
 | non=>cases(show u=YI from rx);exact Yb PySem.W.kitx_none I.kL Y4 e (λz=>by cases z) h
 | bl y=>cases(show u=aaL y from rx);exact Yb PySem.W.kitx_bool I.kL Y4 e (λz=>by cases z) h
 | int i=>obtain⟨t,q⟩:=(show ∃ t,u=ZR i t from rx);cases q;exact Yb PySem.W.kitx_int I.kL Y4 e (λz=>by cases z) h
 | str y=>obtain⟨t,q⟩:=(show ∃ t,u=aaK y t from rx);cases q;exact Yb PySem.W.kitx_str I.kL Y4 e (λz=>by cases z) h
 | flt y=>obtain⟨t,q⟩:=(show ∃ t,u=aec y t from rx);cases q;exact Yb aeu I.kL Y4 e (λz=>by cases z) h
 | @lst a xs ea =>
  cases(show u=W6 a from rx)
  obtain⟨_,_,n,_,h1⟩:=(show aW X.prog X.w H s.heap a (.lst xs) from I.bA a _ ea)
  exact Yb abJ I.kL ⟨_,h1,rfl⟩ e (λz=>nomatch z) h
 | @kU a ob xs ea =>
  cases(show u=W6 a from rx)
  obtain⟨_,_,_,n,_,h1⟩:=(show aW X.prog X.w H s.heap a (.kU ob (.lst xs)) from I.bA a _ ea)
  exact Yb abJ I.kL ⟨_,h1,rfl⟩ e (λz=>nomatch z) h
 | @tup a xs ea =>
  cases(show u=W6 a from rx)
  obtain⟨_,_,_,p⟩:=(show aW X.prog X.w H s.heap a (.tup xs) from I.bA a _ ea)
  obtain⟨o,h1,h2,_⟩:=p
  exact Yb aev I.kL ⟨o,h1,h2⟩ e (λz=>nomatch z) h
 | @dK a kvs ea =>
  cases(show u=W6 a from rx)
  obtain⟨_,_,vs,_,p⟩:=(show aW X.prog X.w H s.heap a (.dK kvs) from I.bA a _ ea)
  obtain⟨o,es,ep,h1,h2,_⟩:=p
  exact Yb abK I.kL ⟨o,h1,h2.1⟩ e (λz=>nomatch z) h
 | @dT a kvs ea =>
  cases(show u=W6 a from rx)
  obtain⟨_,_,xs,_,o,es,ep,h1,h2,_⟩:=(show aW X.prog X.w H s.heap a (.dT kvs) from I.bA a _ ea)
  exact Yb abK I.kL ⟨o,h1,h2.1⟩ e (λz=>nomatch z) h
 | @ins a C dx fs ea cl ha hn htk hm =>
  cases(show u=W6 a from rx)
  obtain⟨mA,O,_⟩:=GL I.bA ea
  obtain⟨od,J,_⟩:=O.look
  exact Yb (PySem.W.kitx_own (cl.get _) cl.hd ha hn htk hm) I.kL J e (λz=>nomatch z) h
end
structure dH(k:Nat)(A:Yk):Prop where
 hd:A.handled=Wx
 dp:A.depth+3*k+5 < recursionLimit
 un:A.units+16*k+200 < ZV
 gd:A.guards=Wv []
theorem dH.mono(r:dH k A)(h:j<=k):dH j A:=⟨r.hd,by have:=r.dp;omega,by have:=r.un;omega,r.gd⟩
theorem dH.deeper(r:dH (k+1) A) env:dH k (A.deeper env) :=
 ⟨r.hd,by have:=r.dp;show A.depth+1+3*k+5 < _;omega,by have:=r.un;show A.units+3+16*k+200 < _;omega,r.gd⟩
theorem dH.in1(r:dH (k+1) A):dH k A.in1 :=
 ⟨r.hd,by have:=r.dp;show A.depth+3*k+5 < _;omega,by have:=r.un;show A.units+1+16*k+200 < _;omega,r.gd⟩
theorem dH.depth(r:dH k A):A.depth < recursionLimit:=by have:=r.dp;omega
theorem dH.units(r:dH k A):A.units+64 < ZV:=by have:=r.un;omega
theorem dH.LS(r:dH k A):A.units < ZV:=by have:=r.un;omega
noncomputable def Tc:TA:=λ_ H Q=>Q [] H
noncomputable def D9(ta:TE)(tr:TA):TA:=fun σ H Q=>ta σ H λx H1=>tr σ H1 λxs H2=>Q (x::xs) H2
section
variable{X:Cx}{e:XH}{es:List XH}{te:TE}{t:TA}{pos:Pos}
theorem OW:PA X [] Tc:=λ_ _ _ _ H Q I h=>aaw ⟨[],H,I,.nil,h⟩
theorem JU(ha:PE X e te)(hr:PA X es t)(hs:Xp (e::es) X.env=(false,Yu e X.env)::Xp es X.env:=by rfl):PA X (e::es) (D9 te t):=by
 intro pos pins s σ H Q I h;rw[hs];show W3 _ _ (spliced ((false,Yu e X.env)::aat pos (Xp es X.env))) _ _ s;refine Zq (hV (ha pins s σ H _ I h) λu s1 x H1 I1 r1 q1=>?_);exact Bm (hr pos pins s1 σ H1 _ I1 q1) λus s2 xs H2 I2 r2 q2=>⟨x::xs,H2,I2,.cons r1 r2,q2⟩
def TC(t:TA):TE:=fun σ H Q=>t σ H λxs H1=>xs.length<=WJ/\ ∀ p,H1 p=Wx->Q (.ref p) (upd H1 p (.tup xs))
def R9(t:TA):TE:=fun σ H Q=>t σ H λxs H1=>xs.length<=WJ/\ ∀ p,H1 p=Wx->Q (.ref p) (upd H1 p (.lst xs))
theorem Oj(h:PA X es t):PE X (.Tuple es x1 pos) (TC t):=by
 intro pins s σ H Q I hq;refine wpAny_Tuple_spliced (Bm (h pos pins s σ H _ I hq) λus s1 xs H1 I1 r ⟨z,q⟩=>⟨by rw[<- r.length];exact z,?_⟩);have hf:=I1.bA.fresh (WG _);refine⟨.ref s1.heap.objs.size,upd H1 s1.heap.objs.size (.tup xs),I1.laid (t':=s1.toks) (λb u e=>WB _ e) (WG _) ?_,rfl,q _ hf⟩;exact⟨z,us,r,⟨_,WS _ rfl,rfl,_,rfl,rfl⟩⟩
theorem Nj(h:PA X es t):PE X (.List es pos) (R9 t):=by
 intro pins s σ H Q I hq;refine wpAny_List_spliced (Bm (h pos pins s σ H _ I hq) λus s1 xs H1 I1 r ⟨z,q⟩=>⟨by rw[<- r.length];exact z,?_⟩);have hf:=I1.bA.fresh (WG _);refine⟨.ref s1.heap.objs.size,upd H1 s1.heap.objs.size (.lst xs),I1.laid (t':=s1.toks) (λb u e=>WB _ e) (WG _) ?_,rfl,q _ hf⟩;exact⟨z,us,0,r,WS _ rfl⟩
end
abbrev Sp:=List V->Hp->VK->XK->Prop
abbrev KU:=List Env->Hp->WK->XK->WC->WK->Prop
structure yD(P:Xy)(w:X0)(K:Wz)(mg:Str->Option WC)(base:X8)(A:Yk)(outer:List Env)(s:WK)(H:Hp):Prop where
 frames:A.frames=Wv outer
 mod:Mod K mg base
 bs: ∀ b o,base.get? b=Wv o->s.heap.get? b=Wv o/\H b=Wx
 Gh:base.objs.size<=s.heap.objs.size
 mS:s.heap.FunFrames base outer
 KO: ∀ b∈CQ outer,H b=Wx
 bA:kf P w H s.heap
 bare:abz s.gens
def CE(outer:List Env)(P:Xy)(w:X0) H (s:WK) (Q:VK) (u:WC) (s':WK) :=
 ∃ v H',s'.os=s.os/\abz s'.gens/\Un (CQ outer) [] H H' s.heap s'.heap/\kf P w H' s'.heap/\RelV v u/\Q v H'
def CR(CX:KU)(outer:List Env)(P:Xy)(w:X0) H (s:WK) Q E (r:Result) (s':WK) :=
 match r with
 | .ok (.ret u)=>CE outer P w H s Q u s'
 | .ok _=>False
 | .error e=>CX outer H s E e s'
structure lU(P:Xy)(w:X0)(K:Wz)(mg:Str->Option WC)(base:X8)(CX:KU)(k:Nat)(f:W2)(fd:Z7)(ps:List Str)(sp:Sp):Prop where
 len: ∀ vs H Q E,sp vs H Q E->vs.length=ps.length
 run: ∀(A:Yk)(outer:List Env)(s:WK)(H:Hp)(args:Args)(us:List WC)(vs:List V)(Q:VK)(E:XK),dH k A->yD P w K mg base A outer s H->acf s fd args (ps.zip us)->Vals vs us->sp vs H Q E ->
  aaR (W8 P w) A (.call (.ref f) args) (CR CX outer P w H s Q E) s
theorem lU.imp{K}(F:lU P w K mg base CX k f fd ps sp)
  (h: ∀ vs H Q E,sp' vs H Q E->sp vs H Q E):lU P w K mg base CX k f fd ps sp' :=
 ⟨λvs H Q E q=>F.len vs H Q E (h _ _ _ _ q),λA outer s H args us vs Q E hr he hb hv hs=>F.run A outer s H args us vs Q E hr he hb hv (h _ _ _ _ hs)⟩
theorem yD.in1{K}(e:yD P w K mg base A outer s H) :
  yD P w K mg base A.in1 outer s H:=⟨e.frames,e.mod,e.bs,e.Gh,e.mS,e.KO,e.bA,e.bare⟩
section
variable{X:Cx}{pins:List (W2 × Obj)}{σ :St}{H:Hp}{s s':WK}
theorem Inv.UT(I:Inv X pins σ H s):yD X.prog X.w X.K X.mg X.base X.A X.stack s H :=
 ⟨I.ok.frames,I.ok.mod,I.bs,Xb I.ok.Gh I.sz,I.stack,I.AS,I.bA,I.bare⟩
theorem Inv.after(I:Inv X pins σ H s)(h:CE X.stack X.prog X.w H s Q u s'):EP X pins σ Q u s':=by
 obtain⟨v,H',os,bare,un,bA,r,q⟩:=h;obtain⟨hh,g,d,t,os'⟩:=s';obtain rfl:os'=s.os:=os;exact⟨v,H',I.call (h':=hh) (g':=g) (d':=d) (t':=t) (ch:=[]) un bA bare (λb z=>absurd z (by simp)),r,q⟩
end
noncomputable def Ak(sp:Sp)(IC:List V)(E:XK)(t:TA):TE:=fun σ H Q=>t σ H λvs H1=>sp (vs++IC) H1 Q E
def Binds(K:Wz)(fd:Z7)(ps:List Str)(ds:List WC) :=
 ∀ s us,K.In s.heap->(us++ds).length=ps.length->acf s fd ⟨us,[]⟩ (ps.zip (us++ds))
theorem Binds.all{K}(h: ∀ us ,us.length=ps.length->Z8 fd ⟨us,[]⟩=pure (ps.zip us)):Binds K fd ps []:=λs us _ hl=>by
 rw[Xr] at hl ⊢;exact .of_eq (h us hl)
def Passes(CX:KU) X E:= ∀ pins(σ :St) H s e s',Inv X pins σ H s->CX X.stack H s E e s'->X.xe e s'
section
variable{X:Cx}{CX:KU}{k:Nat}{f C:W2}{fd:Z7}{ps:List Str}{sp:Sp}{IC:List V}{ds:List WC}{E:XK}{x m:Str}{p pos apos:Pos}{e o:XH}{es:List XH}{ta:TE}{t:TA}
theorem OP{σ :St}(F:lU X.prog X.w X.K X.mg X.base CX k f fd ps sp)(hr:dH k X.A)(hb:Binds X.K fd ps ds)(hd:Vals IC ds)(hx:Passes CX X E)
  (I:Inv X pins σ H s) (r:Vals vs us) (h:sp (vs++IC) H Q E):W3 (W8 X.prog X.w) X.A (call (.ref f) us) (EP X pins σ Q) X.xe s:=by
 have r2:=r.append hd;have hl:(us++ds).length=ps.length:=by rw[<- r2.length];exact F.len _ _ _ _ h
 refine wpAny_call (adF (F.run X.A X.stack s H ⟨us,[]⟩ (us++ds) (vs++IC) Q E hr I.UT (hb s us I.kL hl) r2 h) λr s' hq=>?_);cases r with
 | error e=>exact hx pins σ H s e s' I hq
 | ok fl =>
  cases fl with
  | ret u=>exact I.after hq
  | next=>exact YU hq
  | brk=>exact YU hq
  | cont=>exact YU hq
theorem Jq(F:lU X.prog X.w X.K X.mg X.base CX k f fd ps sp)(hr:dH k X.A)(hg:Gl X x)(hm:X.mg x=Wv (.ref f))(hk:Zk X.K (.ref f)=true)(hb:Binds X.K fd ps ds)(hd:Vals IC ds)(hx:Passes CX X E)
  (ha:PA X (e::es) t) (hdb:(x == ("__debug__"))=false:=by decide) (he:Xp (e::es) X.env=(false,Yu e X.env)::Xp es X.env:=by rfl) (hpl:(aat pos (Xp es X.env)).any (·.1)=false:=by rfl) :
  PE X (.Call (.Name x p) (e::es) [] pos) (Ak sp IC E t):=by
 intro pins s σ H Q I h;refine Zr (zO I hg hm ?_ hdb);refine PySem.W.callWith_K (h₀ :=X.base) I.ok.mod.Vp hk (Bm (ha pos pins s σ H _ I h) λus s1 vs H1 I1 r q=>⟨I1.kL,?_⟩) he hpl;exact OP F hr hb hd hx I1 r q
structure Mk(K:Wz)(C f:W2):Prop where
 makes:PySem.W.makesIn K C=true
 init:aav K (.ref C) "__init__" =Wv (Wv (.ref f))
 fn:aeF K (.ref f)=true
 kp:Zk K (.ref C)=true
end
section
variable{X:Cx}{CX:KU}{k:Nat}{f C:W2}{fd:Z7}{ps ks:List Str}{sp:Sp}{E:XK}{x m:Str}{p pos apos kpos:Pos}{e o:XH}{es:List XH}{kws:List ac4}{te ta:TE}{t tk:TA}{nm:Option Str}
structure UW(K:Wz)(fd:Z7)(ps ks:List Str)(g:List WC->List WC->List WC)(gV:List V->List V->List V):Prop where
 to: ∀(s:WK)(us ws:List WC),K.In s.heap->(g us ws).length=ps.length->acf s fd ⟨us,ks.zip ws⟩ (ps.zip (g us ws))
 rel: ∀{vs:List V}{us:List WC}{zs:List V}{ws:List WC},Vals vs us->Vals zs ws->Vals (gV vs zs) (g us ws)
variable{g:List WC->List WC->List WC}{gV:List V->List V->List V}
end
structure fU(N P:List Str)(sc:aby):Prop where
 kind:sc.kind= .function
 co:sc.isCoroutine=false
 gen:sc.isGenerator=false
 nd:N.Nodup
 pre:N.take P.length=P
 par: ∀ x∈P,sc.names.lookup x=Wv .local\/sc.names.lookup x=Wv .cell
 Mi: ∀ y∈sc.names,y.2≠ .free
theorem sZ{kindOf}: ∀{binds m},(∀ v,(x,v) ∉ binds)->bindL kindOf binds m x=m x
 | [],_,_=>rfl
 | (n,v)::r,m,h=>by
  unfold bindL;rw[sZ λw hw=>h w (WY _ hw)];split
  . have:x≠n:=by rintro rfl;exact h v WW
    simp[this]
  . rfl
theorem sS{kindOf}: ∀{binds m},(∀ v,(x,v) ∉ binds)->bindC kindOf binds m x=m x
 | [],_,_=>rfl
 | (n,v)::r,m,h=>by
  unfold bindC;rw[sS λw hw=>h w (WY _ hw)];split
  . rfl
  . have:x≠n:=by rintro rfl;exact h v WW
    simp[this]
theorem tj{kindOf:Str->Option aaU}{x:Str}{v:WC}: ∀{P:List Str}{vs:List WC}{i:Nat}{m:Str->Option WC},P.Nodup->P[i]?=Wv x->vs[i]?=Wv v->kindOf x=Wv .local ->
  bindL kindOf (P.zip vs) m x=Wv v
 | [],_,_,_,_,h,_,_=>by simp at h
 | _::_,[],_,_,_,_,h,_=>by simp at h
 | p::P,w::vs,0,m,nd,h1,h2,hk=>by
  simp at h1 h2;subst h1;subst h2;show bindL kindOf ((p,w)::P.zip vs) m p=_;unfold bindL;rw[sZ λv hv=>(Y9.mp nd).1 (Zz hv).1,if_pos hk];simp
 | p::P,w::vs,i+1,m,nd,h1,h2,hk=>by
  unfold bindL;exact tj (i:=i) (Y9.mp nd).2 (by simpa using h1) (by simpa using h2) hk
theorem tf{kindOf:Str->Option aaU}{x:Str}{v:WC}: ∀{P:List Str}{vs:List WC}{i:Nat}{m:Str->Option WC},P.Nodup->P[i]?=Wv x->vs[i]?=Wv v->kindOf x≠Wv .local ->
  bindC kindOf (P.zip vs) m x=Wv v
 | [],_,_,_,_,h,_,_=>by simp at h
 | _::_,[],_,_,_,_,h,_=>by simp at h
 | p::P,w::vs,0,m,nd,h1,h2,hk=>by
  simp at h1 h2;subst h1;subst h2;show bindC kindOf ((p,w)::P.zip vs) m p=_;unfold bindC;rw[sS λv hv=>(Y9.mp nd).1 (Zz hv).1,if_neg hk];simp
 | p::P,w::vs,i+1,m,nd,h1,h2,hk=>by
  unfold bindC;exact tf (i:=i) (Y9.mp nd).2 (by simpa using h1) (by simpa using h2) hk
noncomputable def start(N:List Str)(vs:List V):St:=vs.map Wv++WO (N.length - vs.length) Wx
noncomputable def lQ(CX:KU)(P:Xy)(w:X0)(K:Wz)(mg:Str->Option WC)(base:X8)(N:List Str)(qual:Str)(scope:aby)(f:W2)(cd:WC)(A:Yk)(outer:List Env)(s:WK)(H:Hp)(E:XK):Cx where
 prog:=P
 w:=w
 K:=K
 mg:=mg
 base:=base
 A:=A.deeper (abj qual scope s.heap.objs.size f cd)
 N:=N
 s₀ :=s
 H₀ :=H
 env:=abj qual scope s.heap.objs.size f cd
 outer:=outer
 stack:=abj qual scope s.heap.objs.size f cd::outer
 ex:=[]
 calm:=true
 fn:=λ_=>true
 pn:=[]
 xe:=λe s'=>W3 (W8 P w) (A.deeper (abj qual scope s.heap.objs.size f cd)) (leaving (abj qual scope s.heap.objs.size f cd) e) (λ_ s''=>CX outer H s E e s'') (λe' s''=>CX outer H s E e' s'') s'
theorem vN{sc:aby}(h:sc.names.lookup x=Wv .cell): ∃ c,(ZI n sc.names []).lookup x=Wv c:=by
 have q:=aax sc.names n [] (.inl h);exact Z9.mp q
theorem BK{K} 
  (S:fU N ps scope) (hd:A.handled=Wx) (e0:yD P w K mg base A outer s H) (hl:vs.length=ps.length) (r:Vals vs us)
  (x:InCallC s s.heap.objs.size (bindL (abj qual scope s.heap.objs.size f cd).kindOf (ps.zip us) λ_=>Wx) (ZI (s.heap.objs.size+1) scope.names []) (bindC (abj qual scope s.heap.objs.size f cd).kindOf (ps.zip us) λ_=>Wx) s1) :
  Inv (lQ CX P w K mg base N qual scope f cd A outer s H E) [] (start N vs) H s1:=by
 have hpl:ps.length<=N.length:=by have:=congrArg aed S.pre;rw[Xz] at this;omega
 obtain⟨h1,tk,rfl,hk⟩:=x.done;have noA: ∀ b:W2,b ∉ (lQ CX P w K mg base N qual scope f cd A outer s H E).ex:=λb z=>absurd (show b∈([]) from z) (by simp);refine⟨⟨e0.mod,S.kind,rfl,rfl,WG _,λy z c h1 h2=>?_,λy hy=>?_,λy c _ h=>?_,λ_=>hd,Around.frames_deeper e0.frames,.inr ⟨rfl,rfl⟩,λb z=>absurd z (noA b),e0.bs,e0.Gh,λb _ _=>noA b,λb z=>absurd z (noA b),e0.mS,e0.KO⟩,
  rfl,e0.bare,Un.kept hk,⟨_,x.toInCall.ns,λi y v h1 h2 h3=>?_⟩,λy c h=>⟨_,x.cell y c h⟩,e0.bA.fresh (WG _),λy c h=>?_,λp hp=>absurd (show p∈([]) from hp) (by simp),e0.bA.kept hk,?_⟩
 . exact name_of_addr x.apart (Zi h1) (Zi h2)
 . rcases hy with hy | hy
   . exact vN hy
   . exact absurd rfl (S.Mi _ (Zi hy))
 . exact YY (x.above y c (Zi h))
 . have hi:i < vs.length:=by
    unfold start at h2;by_cases hi:i < vs.length
    . exact hi
    . rw[Xe (by simpa using hi)] at h2;rw[Zl] at h2;split at h2<;>cases h2
   have ha:vs[i]?=Wv v:=by
    unfold start at h2;rw[Xu (by simpa using hi),WT] at h2;cases e:vs[i]? with
    | none=>rw[e] at h2;cases h2
    | some a=>rw[e] at h2;cases h2;rfl
   obtain⟨u,hu,rv⟩:=r.get ha;have hp:ps[i]?=Wv y:=by
    rw[<- S.pre,List.getElem?_take_of_lt (by omega)];exact h1
   have ndP:ps.Nodup:=by rw[<- S.pre];exact S.nd.sublist (List.take_sublist _ _)
   refine⟨u,rv,?_⟩;rcases S.par y (WL hp) with k | k
   . exact .inl ⟨k,tj ndP hp hu k⟩
   . obtain⟨c,e⟩:=vN (n:=s.heap.objs.size+1) k;refine .inr ⟨.inl k,c,e,?_⟩;have q:=x.cell y c e;rw[tf ndP hp hu (by show scope.names.lookup y≠_;rw[k];decide)] at q;exact q
 . exact e0.bA.fresh (YY (x.above y c (Zi h)))
 . unfold start;show _=N.length;rw [WR,Wy,acE];omega
theorem R8{K kV} 
       (lk : K.lookup f = some ⟨oc, od, .func (PySem.W.fnOf name qual params body scope dV kV doc pm an cdv ct), osl⟩) (hcd : PySem.W.codeIn K cdv qual = true) (S : fU N ps scope)
    (len : ∀ vs H Q E, sp vs H Q E -> vs.length = ps.length)
    (hbody : ∀ A outer s H vs Q E, dH k (A.deeper (abj qual scope s.heap.objs.size f cdv)) -> sp vs H Q E ->
      ∃ t, xI (lQ CX P w K mg base N qual scope f cdv A outer s H E) body t /\ t { nx := λ_ H' => Q .non H', rt := Q} (start N vs) H) :
    lU P w K mg base CX (k + 1) f (Ym name qual params body scope dV kV doc pm an cdv ct) ps sp := by
  refine ⟨len, λA outer s H args us vs Q E hr e0 hb r hsp => ?_⟩;have hl := len _ _ _ _ hsp;have KX := e0.mod.Vp.keeps λb o e => (e0.bs b o e).1;have lim := e0.mod.nolimit.keeps λb o e => (e0.bs b o e).1;have hkind : ∀ y ∈ ps.zip us, scope.names.lookup y.1 = Wv .local ∨ (scope.names.lookup y.1 = Wv .cell /\ ((ZI (s.heap.objs.size + 1) scope.names []).lookup y.1).isSome = true) := λ⟨n, v⟩ hy => by
    rcases S.par n (Zz hy).1 with q | q
    . exact .inl q
    . exact .inr ⟨q, aax _ _ _ (.inl q)⟩
  refine codeAny_call_function hr.depth (KX _ _ lk) rfl S.co S.gen rfl (PySem.W.codeRec_of KX hcd) (hb _ _ _ _ ?_);refine wpAny_newFunctionEnv_cells S.kind hkind λenv he s1 x => ?_;subst he;refine ⟨lim.keeps x.toInCall.keep, codeAny_func ?_⟩;obtain ⟨t, ht, hq⟩ := hbody A outer s H vs Q E (hr.deeper _) hsp;have I : Inv (lQ CX P w K mg base N qual scope f cdv A outer s H E) [] (start N vs) H s1 := BK S hr.hd e0 hl r x;refine XE (ht [] s1 (start N vs) H _ I hq) (λfl s' hs => ?_) λe s' hs => hs;have fin : ∀{σ' : St}{H' : Hp}{v : V}{u : WC}, Inv (lQ CX P w K mg base N qual scope f cdv A outer s H E) [] σ' H' s' -> RelV v u -> Q v H' -> CE outer P w H s Q u s' :=
    λ{σ' H' v u} J rv q => ⟨v, H', J.os, J.bare, J.base, J.bA, rv, q⟩
  cases fl with
  | ret u =>
    obtain ⟨v, σ', H', J, rv, q⟩ := hs
    exact fin J rv q
  | next =>
    obtain ⟨σ', H', J, q⟩ := hs
    exact fin (v := V.non) (u := YI) J rfl q
  | brk =>
    obtain ⟨_, _, _, q⟩ := hs
    exact YU q
  | cont =>
    obtain ⟨_, _, _, q⟩ := hs
    exact YU q
section
variable{X:Cx}{x:Str}{p pos:Pos}{e:XH}{es:List XH}{t:TA}{id T:String}{r:List V->Hp->VK->Prop}
noncomputable def MX(r:List V->Hp->VK->Prop)(t:TA):TE:=fun σ H Q=>t σ H λvs H1=>r vs H1 Q
theorem Fb(hc:aS X (.builtin id) r)(hg:Gl X x)(hm:X.mg x=Wx)(hv:Yc x=Wv (.builtin id))(ha:PA X (e::es) t)(hn:x≠ "__name__" :=by decide)(hdb:(x == ("__debug__"))=false:=by decide)
  (he:Xp (e::es) X.env=(false,Yu e X.env)::Xp es X.env:=by rfl) (hpl:(aat pos (Xp es X.env)).any (·.1)=false:=by rfl):PE X (.Call (.Name x p) (e::es) [] pos) (MX r t):=by
 intro pins s σ H Q I h;refine Zr (gY I hg hm hv ?_ hn hdb);exact PyProof.Rows.callWith_builtin1 (Bm (ha pos pins s σ H _ I h) λus s1 vs H1 I1 r1 q1=>hc pins s1 σ H1 vs us Q I1 r1 q1) he hpl
theorem Bb(hc:aS X (.type T) r)(hg:Gl X x)(hm:X.mg x=Wx)(hv:Yc x=Wv (.type T))(ha:PA X (e::es) t)(hn:x≠ "__name__" :=by decide)(hdb:(x == ("__debug__"))=false:=by decide)
  (he:Xp (e::es) X.env=(false,Yu e X.env)::Xp es X.env:=by rfl) (hpl:(aat pos (Xp es X.env)).any (·.1)=false:=by rfl):PE X (.Call (.Name x p) (e::es) [] pos) (MX r t):=by
 intro pins s σ H Q I h;refine Zr (gY I hg hm hv ?_ hn hdb);exact XI (Bm (ha pos pins s σ H _ I h) λus s1 vs H1 I1 r1 q1=>hc pins s1 σ H1 vs us Q I1 r1 q1) he hpl
end
end L2
namespace HT
open PySem PyProof.Rows
section
variable{prog:Xy}{w:X0}{A:Yk}{E:WC->WK->Prop}{s:WK}
theorem IA{t b:W2}{vs ws:List WC}{Q:WC->WK->Prop}(ht:IsTup s.heap t vs.toArray)(hb:IsTup s.heap b ws.toArray)(hv:vs≠[])
  (h1:ws=[]->Q (.ref t) s) (h2:ws≠[]->Q (.ref s.heap.objs.size) { s with heap:=s.heap.push { cls:= .type "tuple",data:= .seq (vs++ws).toArray}})
  (hsz:vs.length+ws.length<=WJ):W3 (W8 prog w) A (Yg .Add (.ref t) (.ref b)) Q E s:=by
 obtain⟨⟨cls,dd,data,sl⟩,ho,hc,n,hd⟩:=id ht;obtain⟨⟨cls2,dd2,data2,sl2⟩,ho2,hc2,n2,hd2⟩:=id hb;simp only at hc hd hc2 hd2;subst hc hd hc2 hd2;have e:vs.toArray++ws.toArray=(vs++ws).toArray:=by simp
 by_cases hw:ws=[]
 . exact adG ⟨_,ho,rfl⟩ ⟨_,ho2,rfl⟩ ab1 adj aay aap (aaa _ _)
    (tuple_addW1 t b vs.toArray ws.toArray n n2 dd dd2 sl sl2 (by simpa using hv) (by simp[hw])) ⟨ho,ho2,h1 hw⟩
 . refine adG ⟨_,ho,rfl⟩ ⟨_,ho2,rfl⟩ ab1 adj aay aap (aaa _ _)
    (tuple_addW2 t b vs.toArray ws.toArray n n2 dd dd2 sl sl2 (by simpa using hv) (by simpa using hw) (by exact hsz)) ⟨ho,ho2,?_⟩
   rw[e];exact h2 hw
noncomputable def dq(n d:Nat):Option Int->Nat
 | none=>d
 | some v=>if v < 0 then(v+(n)).toNat else min v.toNat n
theorem mG n d:dq n d Wx=d:=rfl
theorem oX(n d k:Nat):dq n d (Wv (k))=min k n:=by
 show(if (k) < 0 then((k)+(n:Int)).toNat else min (k:Int).toNat n)=min k n;rw[if_neg (by omega),XA]
theorem UB n d (hd:d<=n) o:dq n d o<=n:=by
 cases o with
 | none=>exact hd
 | some v =>
  show(if v < 0 then(v+(n)).toNat else min v.toNat n)<=n
  by_cases hv:v < 0
  . rw[if_pos hv];omega
  . rw[if_neg hv];exact aaM _ _
theorem zQ v (n d:Nat):(if v < 0 then max (v+(n:Int)) 0 else min v (n))=((dq n d (Wv v))):=by
 show(if v < 0 then max (v+(n)) 0 else min v (n))=(((if v < 0 then(v+(n)).toNat else min v.toNat n)))
 by_cases hv:v < 0
 . simp only[if_pos hv];omega
 . simp only[if_neg hv];omega
theorem ym lo hi (n:Nat):ZW lo hi 1 (n)=(((dq n 0 lo):Int),((dq n n hi):Int)):=by
 have h1: ¬ ((1) < 0):=by omega
 unfold ZW;refine Prod.ext ?_ ?_
 . cases lo with
   | none=>rfl
   | some v=>exact zQ v n 0
 . cases hi with
   | none=>rfl
   | some v=>exact zQ v n n
theorem yp(i j:Nat):Y6 (i) (j) 1=j - i:=by
 unfold Y6;have h1:(1:Int) > 0:=by omega
 simp only[h1,if_true,Int.ediv_one];split<;>omega
theorem qA{v:WC}{o:Option Int}{Q:Option Int->WK->Prop}(p:acg v o)(h:Q o s):W3 (W8 prog w) A (Builtin.Slice.slicePartIndex v) Q E s:=by
 cases p with
 | none=>exact slicePart_none h
 | int i t=>exact slicePart_int h
theorem ic{sl:W2}{vl vu:WC}{lo hi:Option Int}{n:Nat}{Q:Int × Int × Nat->WK->Prop}(hs:s.heap.IsSliceOf sl vl vu .none)(pl:acg vl lo)(pu:acg vu hi)
  (h:Q (((dq n 0 lo:Nat):Int),1,dq n n hi - dq n 0 lo) s):W3 (W8 prog w) A (Builtin.Slice.sliceApplied (.ref sl) (pure (n:Int))) Q E s:=by
 obtain⟨os,hos,hcs,hds⟩:=id hs;refine Ww (Ww (XO hos hds (x:=vl) rfl (Ww (XO hos hds (x:=vu) rfl (Ww (XO hos hds (x:= .none) rfl (WI ?_)))))));refine Ww (slicePart_none ?_);refine Ww (qA pl (Ww (qA pu (Ww (WI ?_)))));show W3 _ _ (match ZW lo hi 1 (n) with | (lo,hi)=>pure (lo,(1:Int),Y6 lo hi 1)) _ _ s;rw[ym lo hi n];show W3 _ _ (pure (((dq n 0 lo):Int),(1),Y6 ((dq n 0 lo)) ((dq n n hi)) 1)) _ _ s;rw[yp];exact WI h
theorem Eb(xs:Array WC)(i k:Nat):((Xj k).filterMap λ(m:Nat)=>xs[((i:Int)+(m)*1).toNat]?).toArray=((xs.toList.drop i).take k).toArray:=by
 have e:(λ(m:Nat)=>xs[((i)+(m:Int)*1).toNat]?)=λm=>xs[i+m]?:=by
  funext m
  have:((i)+(m:Int)*1).toNat=i+m:=by omega
  rw[this]
 rw[e];have:=pick_run xs i k;rw[List.filterMap_map] at this;have e2:((λx=>xs[x]?) ∘ λx=>i+x)=λm=>xs[i+m]?:=rfl;rw[e2] at this;rw [this]
theorem l7{t sl : W2}{items : Array WC}{vl vu : WC}{lo hi : Option Int}{Q : WC -> WK -> Prop}(ht : IsTup s.heap t items)(hs : s.heap.IsSliceOf sl vl vu .none)(pl : acg vl lo)(pu : acg vu hi)
    (hw : ¬ (dq items.size 0 lo = 0 /\ dq items.size items.size hi = items.size))
    (h : Q (.ref s.heap.objs.size) { s with heap := s.heap.push { cls := .type "tuple", data := .seq ((items.toList.drop (dq items.size 0 lo)).take (dq items.size items.size hi - dq items.size 0 lo)).toArray}})
    (hsz : items.size <= WJ) : W3 (W8 prog w) A (aaQ (.ref t) (.ref sl)) Q E s := by
  have htake : sizeOk (.seq ((items.toList.drop (dq items.size 0 lo)).take (dq items.size items.size hi - dq items.size 0 lo)).toArray) := by
    show ((items.toList.drop (dq items.size 0 lo)).take (dq items.size items.size hi - dq items.size 0 lo)).toArray.size <= WJ;rw [WZ, Xz, YJ, YF];omega
  obtain ⟨os, hos, hcs, hds⟩ := id hs;have hTs : s.TypeIs (.ref sl) "slice" := ⟨os, hos, hcs⟩
  unfold aaQ
  try with_reducible refine XQ ?_
  refine Ww (wpAny_sequenceKey ht.typeIs (by decide) ?_);refine Ww (XU (name := WU "__getitem__") ht.typeIs XN
    (Yd XN ht.typeIs ac7 ?_ (ads _ _)))
  show W3 _ _ (abk (.ref t) >>= _) _ _ s;refine Ww (tupleItemsOf_ ht ?_);refine Ww (Zt hTs ?_);refine Ww (ic hs pl pu ?_);have hno : ¬ ((((dq items.size 0 lo) : Int) == 0 && (1 : Int) == 1 && (dq items.size items.size hi - dq items.size 0 lo) == items.size) = true) := by
    intro q;rw [WX, WX] at q;have q1 := eq_of_beq q.1.1;have q2 := eq_of_beq q.2;exact hw ⟨by omega, by omega⟩
  show W3 _ _ (if (((dq items.size 0 lo) : Int) == 0 && (1) == 1 && (dq items.size items.size hi - dq items.size 0 lo) == items.size) = true then _ else _) _ _ s;rw [if_neg hno, Eb]
  first
    | exact Ww (m := Yn _) (Yi (WI ⟨_, rfl, WI h⟩) htake)
    | exact Ww (m := Yn _) (Yi (Ww (WI (WI ⟨_, rfl, WI h⟩))) htake)
    | exact Ww (Ww (m := Yn _) (Yi (WI (WI ⟨_, rfl, WI h⟩)) htake))
    | exact Ww (Ww (m := Yn _) (Yi (WI ⟨_, rfl, WI h⟩) htake))
end
end HT
namespace L2
open PySem PySem.Spec PyProof.Rows
abbrev TO:=St->Hp->(Option Int->Hp->Prop)->Prop
def PO X (e:Option XH) (t:TO) :=
 ∀ pins s(σ :St) H Q,Inv X pins σ H s->t σ H Q ->
  W3 (W8 X.prog X.w) X.A (evalPart e X.env) (λu s'=> ∃ o H',Inv X pins σ H' s'/\acg u o/\Q o H') X.xe s
noncomputable def AQ:TO:=λ_ H Q=>Q Wx H
noncomputable def Le(t:TE):TO:=fun σ H Q=>t σ H λx H1=> ∃ i,x= .int i/\Q (Wv i) H1
section
variable{X:Cx}{e:XH}{te:TE}{lo hi:Option XH}{tl th:TO}{pos p2:Pos}
theorem Jm:PO X Wx AQ:=by
 intro pins s σ H Q I h;exact WI ⟨Wx,H,I,.none,h⟩
theorem HW(h:PE X e te):PO X (Wv e) (Le te):=by
 intro pins s σ H Q I hw;refine hV (h pins s σ H _ I hw) λu s1 x H1 I1 r1 q1=>?_;obtain⟨i,rfl,q⟩:=q1;obtain⟨t,rfl⟩:=r1;exact⟨Wv i,H1,I1,.int i t,q⟩
def Gn X (r:V->Option Int->Option Int->Hp->VK->Prop) :=
 ∀ pins s(σ :St) H x v vl vu lo hi sl Q,Inv X pins σ H s->RelV x v->s.heap.IsSliceOf sl vl vu .none->acg vl lo->acg vu hi->r x lo hi H Q ->
  ∃ T id,ach (.type T) "__getitem__" =pure (Wv (.builtin id))/\s.TypeIs v T/\W3 (W8 X.prog X.w) X.A (aaQ v (.ref sl)) (EP X pins σ Q) X.xe s
theorem Gn.or(h:Gn X r)(h':Gn X r'):Gn X (λx lo hi H Q=>r x lo hi H Q\/r' x lo hi H Q):=by
 intro pins s σ H x v vl vu lo hi sl Q I rx hs pl pu q;rcases q with q | q
 . exact h pins s σ H x v vl vu lo hi sl Q I rx hs pl pu q
 . exact h' pins s σ H x v vl vu lo hi sl Q I rx hs pl pu q
noncomputable def V9(r:V->Option Int->Option Int->Hp->VK->Prop)(te:TE)(tl th:TO):TE:=fun σ H Q=>te σ H λx H1=>tl σ H1 λl H2=>th σ H2 λu H3=>r x l u H3 Q
theorem Gd(hr:Gn X r)(he:PE X e te)(hl:PO X lo tl)(hu:PO X hi th):PE X (.Subscript e (.Slice lo hi Wx p2) pos) (V9 r te tl th):=by
 intro pins s σ H Q I h;refine Subscript_ (hV (he pins s σ H _ I h) λv s1 x H1 I1 r1 q1=>?_);refine wpAny_Slice (oI (hl pins s1 σ H1 _ I1 q1) λvl s2 ⟨l,H2,I2,pl,q2⟩=>oI (hu pins s2 σ H2 _ I2 q2) λvu s3 z9=>?_);obtain⟨u,H3,I3,pu,q3⟩:=z9;refine WI ?_;have I4:Inv X pins σ H3 { s3 with heap:=s3.heap.push { cls:= .type "slice",data:= .fields #[vl,vu,.none]}}:=I3.kept (t':=s3.toks) λb ob q=>WB _ q;obtain⟨T,id,hT,ht,hg⟩:=hr pins { s3 with heap:=s3.heap.push { cls:= .type "slice",data:= .fields #[vl,vu,.none]}} σ H3 x v vl vu l u s3.heap.objs.size Q I4 r1 (aeM ..) pl pu q3;exact tail_any (ops:=[.ref s3.heap.objs.size,v]) ht hT hg (by with_unfolding_all rfl)
def oJ(xs:List V)(lo hi:Option Int):=(xs.drop (HT.dq xs.length 0 lo)).take (HT.dq xs.length xs.length hi - HT.dq xs.length 0 lo)
theorem oD xs lo hi:(oJ xs lo hi).length<=xs.length:=by
 unfold oJ;rw[Xz,YJ];omega
def SQ(K:Wz):V->Option Int->Option Int->Hp->VK->Prop:=λx lo hi H Q=> ∃ a xs,x= .ref a/\fw K H a xs /\
 ¬ (HT.dq xs.length 0 lo=0/\HT.dq xs.length xs.length hi=xs.length)/\ ∀ p,H p=Wx->Q (.ref p) (upd H p (.tup (oJ xs lo hi)))
theorem Of:Gn X (SQ X.K):=by
 intro pins s σ H x v vl vu lo hi sl Q I rx hs pl pu h;obtain⟨a,xs,rfl,hx,hw,q⟩:=h;cases rx;obtain⟨ak,r,ht,hz⟩:=I.tuple hx;have hlen:ak.toArray.size=xs.length:=by exact r.length.symm
 refine⟨"tuple",_,XN.lookup,ht.typeIs,?_⟩;refine HT.l7 ht hs pl pu (by rw[hlen];exact hw) ?_ (by rw[hlen];exact hz);rw[hlen];refine⟨.ref s.heap.objs.size,_,I.laid (t':=s.toks) (o:= .tup (oJ xs lo hi)) (λb ob q=>WB _ q) (WG _) ?_,rfl,q _ (I.bA.fresh (WG _))⟩;exact⟨Xb (oD xs lo hi) hz,_,(r.drop (HT.dq xs.length 0 lo)).take (HT.dq xs.length xs.length hi - HT.dq xs.length 0 lo),rG.new _ _⟩
def KW(K:Wz):R2:=λx y H Q=> ∃ a b xs ys,x= .ref a/\y= .ref b/\fw K H a xs/\fw K H b ys/\xs≠[]/\xs.length+ys.length<=WJ /\
 (ys=[]->Q (.ref a) H)/\(ys≠[]-> ∀ p,H p=Wx->Q (.ref p) (upd H p (.tup (xs++ys))))
theorem Vals.oP(r:Vals xs us):us=[]↔xs=[]:=by
 cases r with
 | nil=>simp
 | cons _ _=>simp
theorem JM:cZ X (Yg .Add) (KW X.K):=by
 intro pins s σ H x y v u Q I rx ry h;obtain⟨a,b,xs,ys,rfl,rfl,ha,hb,hx,hz,q1,q2⟩:=h;cases rx;cases ry;obtain⟨ak,r1,p1,_⟩:=I.tuple ha;obtain⟨its2,r2,p2,_⟩:=I.tuple hb;refine HT.IA p1 p2 (λz=>hx (r1.oP.mp z)) (λz=>⟨.ref a,H,I,rfl,q1 (r2.oP.mp z)⟩) (λz=>?_) (by rw[<- r1.length,<- r2.length];exact hz);refine⟨.ref s.heap.objs.size,_,I.laid (t':=s.toks) (o:= .tup (xs++ys)) (λb ob q=>WB _ q) (WG _) ?_,rfl,q2 (λw=>z (r2.oP.mpr w)) _ (I.bA.fresh (WG _))⟩;exact⟨by rw[WR];exact hz,_,r1.append r2,rG.new _ _⟩
end
noncomputable def pX(n:Nat)(i:Int):=if 0<=i then(if i < n then Wv i.toNat else Wx) else if -(n)<=i then Wv (i+n).toNat else Wx
def dZ{α :Type}(xs:List α) i:=(pX xs.length i).bind λj=>xs[j]?
theorem Au(h:pX n i=Wv j):seqIndex? i n=Wv j/\j < n/\ -(n)<=i/\i < n:=by
 unfold pX at h;by_cases h0:0<=i
 . rw[if_pos h0] at h;by_cases h1:i < n
   . rw[if_pos h1] at h;have e:=Xx h;exact⟨by rw[aee h0 h1,e],by omega,by omega,h1⟩
   . rw[if_neg h1] at h;cases h
 . rw[if_neg h0] at h;by_cases h1: -(n)<=i
   . rw[if_pos h1] at h;have e:=Xx h;exact⟨by rw[adH (by omega) h1,e],by omega,h1,by omega⟩
   . rw[if_neg h1] at h;cases h
theorem uV(h:dZ xs i=Wv v): ∃ j,seqIndex? i xs.length=Wv j/\xs[j]?=Wv v/\j < xs.length/\ -(xs.length)<=i/\i < xs.length:=by
 unfold dZ at h;cases e:pX xs.length i with
 | none=>rw[e] at h;cases h
 | some j =>
  rw[e] at h
  obtain⟨h1,h2,h3,h4⟩:=Au e
  exact⟨j,h1,h,h2,h3,h4⟩
theorem eW{j:Nat}(h:xs[j]?=Wv v):dZ xs (j)=Wv v:=by
 have hj:=(WA.mp h).1;have e:pX xs.length (j)=Wv j:=by
  unfold pX;rw[if_pos (by omega),if_pos (by omega)];simp
 unfold dZ;rw[e];exact h
def uv b:= ∀ o i,abA b false o i=operate [o,i] (aaQ o i)
def AW X (r:R2) :=
 ∀ value slice pins s(σ :St) H x y v u Q,Inv X pins σ H s->RelV x v->RelV y u->r x y H Q ->
  abA slice false v u=operate [v,u] (aaQ v u)->W3 (W8 X.prog X.w) X.A (subscriptTail value slice v u) (EP X pins σ Q) X.xe s
def KS X (id:String) (r:V->List V->Hp->VK->Prop) :=
 ∀ pins s(σ :St) H x xs v us Q,Inv X pins σ H s->RelV x v->Vals xs us->r x xs H Q ->
  W3 (W8 X.prog X.w) X.A (call (.builtin id) (v::us)) (EP X pins σ Q) X.xe s
section
variable{X:Cx}{a b:XH}{ta tb:TE}{pos:Pos}
theorem AW.or(h:AW X r)(h':AW X r'):AW X (λx y H Q=>r x y H Q\/r' x y H Q):=by
 intro value slice pins s σ H x y v u Q I rx ry q hs;rcases q with q | q
 . exact h value slice pins s σ H x y v u Q I rx ry q hs
 . exact h' value slice pins s σ H x y v u Q I rx ry q hs
theorem Tx(hr:AW X r)(ha:PE X a ta)(hb:PE X b tb)(hs:uv b):PE X (.Subscript a b pos) (Je r ta tb):=by
 intro pins s σ H Q I h;exact Subscript_ (Oa ha hb I h λv u s2 x y H2 I2 rx ry q=>hr a b pins s2 σ H2 x y v u Q I2 rx ry q (hs _ _))
def Ra(K:Wz):R2:=λx y H Q=> ∃ p xs i v,x= .ref p/\y= .int i/\hW K H p xs/\dZ xs i=Wv v/\Q v H
def Te(K:Wz):R2:=λx y H Q=> ∃ p xs i v,x= .ref p/\y= .int i/\fw K H p xs/\dZ xs i=Wv v/\Q v H
def QC:R2:=λx y H Q=> ∃ z i c,x= .str z/\y= .int i/\z.length<=WJ/\dZ z.cps.toList i=Wv c/\Q (.str ⟨#[c]⟩) H
theorem Ki:AW X (Ra X.K):=by
 intro value slice pins s σ H x y v u Q I rx ry h hs;obtain⟨p,xs,i,z,rfl,rfl,hq,he,q⟩:=h;cases rx;obtain⟨t,rfl⟩:=ry;obtain⟨ak,r,pl,hz⟩:=I.list hq;obtain⟨j,h1,h2,h3,h4,h5⟩:=uV he;obtain⟨w,ew,rw'⟩:=r.get h2;have hl:=r.length;have hn:=kE;have fin:EP X pins σ Q w s:=⟨z,H,I,rw',q⟩
 by_cases h0:0<=i
 . have hj:i.toNat=j:=by
    rw[aee h0 h5] at h1;exact Xx h1
   exact item_listR pl.isList h0 (by omega) (by rw[hj];simpa using ew) fin hs
 . have hj:(i+(ak.toArray.size)).toNat=j:=by
    rw[adH (by omega) h4] at h1;rw[WZ,<- hl];exact Xx h1
   exact aci (x:=w) pl.isList.typeIs slot_list_getitem.lookup
    (wpAny_getItem_list_neg (Q:=λr s'=>r=w/\EP X pins σ Q r s') pl.isList (by omega) (by rw[WZ]<;>omega) (by omega) (by rw[hj];simpa using ew) ⟨rfl,fin⟩) hs
theorem M6:AW X (Te X.K):=by
 intro value slice pins s σ H x y v u Q I rx ry h hs;obtain⟨p,xs,i,z,rfl,rfl,hq,he,q⟩:=h;cases rx;obtain⟨t,rfl⟩:=ry;obtain⟨ak,r,pl,hz⟩:=I.tuple hq;obtain⟨j,h1,h2,h3,h4,h5⟩:=uV he;obtain⟨w,ew,rw'⟩:=r.get h2;have hl:=r.length;have hn:=kE;have fin:EP X pins σ Q w s:=⟨z,H,I,rw',q⟩
 exact aci (x:=w) pl.typeIs XN.lookup
  (getItem_tuple (j:=j) (Q:=λr s'=>r=w/\EP X pins σ Q r s') pl (by omega) (by omega) (by rw[WZ,<- hl];exact h1) (by simpa using ew) ⟨rfl,fin⟩) hs
theorem Nn:AW X QC:=by
 intro value slice pins s σ H x y v u Q I rx ry h hs;obtain⟨z,i,c,rfl,rfl,hz,he,q⟩:=h;obtain⟨t,rfl⟩:=rx;obtain⟨t',rfl⟩:=ry;obtain⟨j,h1,h2,h3,h4,h5⟩:=uV he;have hl:z.cps.toList.length=z.length:=by simp[Str.length]
 rw[hl] at h1 h4 h5;have hn:=kE;exact tail_any (adt s z t) slot_str_getitem.lookup (getItem_str (c:=c) (by
  have e1:decide (i < -(2 ^ 63:Int))=false:=decide_eq_false (by omega);have e2:decide (i ≥ 2 ^ 63)=false:=decide_eq_false (by omega);rw[e1,e2,Bool.or_false]) (by rw[h1];simpa using h2) ⟨.str ⟨#[c]⟩,H,I.tok _,⟨_,rfl⟩,q⟩) hs
def Wm(K:Wz):R2:=λx y H Q=>Ra K x y H Q\/Te K x y H Q\/QC x y H Q
theorem PN:AW X (Wm X.K):=Ki.or (M6.or Nn)
theorem yf(ak:List WC) n j u:X4 (·.setIfInBounds j u) { cls:= .type "list",data:= .seq ak.toArray n}={ cls:= .type "list",data:= .seq (ak.set j u).toArray n}:=by
 simp[X4]
theorem Inv.lst{pins}{σ :St}{H s p xs}(I:Inv X pins σ H s)(h:H p=Wv (.lst xs)) :
  ∃(ak:List WC)(n:Nat),Vals xs ak/\s.heap.get? p=Wv { cls:= .type "list",data:= .seq ak.toArray n}/\xs.length<=WJ:=by
 obtain⟨z,ak,n,r,e⟩:=I.bA p _ h;exact⟨ak,n,r,e,z⟩
theorem Inv.Pm{pins:List (W2 × Obj)}{σ :St}{H:Hp}{s:WK}{p:W2}{xs ys:List V}{ak its':List WC}{n n':Nat}{f:Obj->Obj}(I:Inv X pins σ H s)(h:H p=Wv (.lst xs))
  (ho:s.heap.get? p=Wv { cls:= .type "list",data:= .seq ak.toArray n}) (hf:f { cls:= .type "list",data:= .seq ak.toArray n}={ cls:= .type "list",data:= .seq its'.toArray n'}) (r:Vals ys its') (hz:ys.length<=WJ) (t:Nat) :
  Inv X pins σ (upd H p (.lst ys)) { s with heap:=s.heap.update p f,toks:=t}:=by
 have e:(s.heap.update p f).get? p=Wv { cls:= .type "list",data:= .seq its'.toArray n'}:=by
  rw[YH f ho (by rw[hf]<;>rfl),hf]
 refine I.write (x:=p) (e:=p) (by rw[h];trivial) (.inl rfl) (λb u hb q=>(Yz _ _ (Za hb)).trans q) ⟨_,e⟩ ?_;exact⟨hz,its',n',r,e⟩
def Qt:V->V->V->Hp->(Hp->Prop)->Prop:=λo i v H Q=> ∃ p xs k j,o= .ref p/\i= .int k/\H p=Wv (.lst xs)/\pX xs.length k=Wv j/\Q (upd H p (.lst (xs.set j v)))
theorem set_list:pP X Qt:=by
 intro pins s σ H o i v ov iv u Q I ro ri rv h;obtain⟨p,xs,k,j,rfl,rfl,hp,hj,q⟩:=h;cases ro;obtain⟨t,rfl⟩:=ri;obtain⟨ak,n,r,ho,hz⟩:=I.lst hp;obtain⟨h1,h2,h3,h4⟩:=Au hj;have hl:=r.length;have hn:=kE;have I' :=
  I.Pm hp ho (yf ak n j u) (r.set rv j) (by rw[Xa];exact hz) s.toks
 by_cases h0:0<=k
 . have hk:k.toNat=j:=by
    rw[aee h0 h4] at h1;exact Xx h1
   exact PySem.W.ki_setAt ho h0 (by omega) (by rw[WZ,<- hl];exact h4) (by rw[hk];exact⟨_,I',q⟩)
 . have hk:(k+(ak.toArray.size)).toNat=j:=by
    rw[adH (by omega) h3] at h1;rw[WZ,<- hl];exact Xx h1
   exact PySem.W.ki_setBack ho (by omega) (by rw[WZ,<- hl];exact h3) (by omega) (by rw[hk];exact⟨_,I',q⟩)
theorem uk lo hi n:(aaq lo hi Wx n).1=((HT.dq n 0 lo))/\(aaq lo hi Wx n).2.1=((HT.dq n n hi))/\(aaq lo hi Wx n).2.2=1:=by
 refine⟨?_,?_,rfl⟩
 . cases lo with
   | none=>simp[aaq,HT.dq]
   | some i =>
    simp only[aaq,HT.dq,ad4,show(1:Int) > 0 by decide,if_true]
    by_cases h:i < 0
    . simp only[h,if_true]<;>omega
    . simp only[h,if_false]<;>omega
 . cases hi with
   | none=>simp[aaq,HT.dq]
   | some i =>
    simp only[aaq,HT.dq,ad4,show(1:Int) > 0 by decide,if_true]
    by_cases h:i < 0
    . simp only[h,if_true]<;>omega
    . simp only[h,if_false]<;>omega
theorem rW(ak:List WC) lo hi:slicePick ak.toArray lo hi Wx=((ak.drop (HT.dq ak.length 0 lo)).take (HT.dq ak.length ak.length hi - HT.dq ak.length 0 lo)).toArray:=by
 obtain⟨h1,h2,h3⟩:=uk lo hi ak.toArray.size;unfold slicePick;rw[h1,h2,h3];simp only[sliceRange_one,pick_run]<;>rfl
def Q2(K:Wz):V->Option Int->Option Int->Hp->VK->Prop:=λx lo hi H Q=> ∃ a xs,x= .ref a/\hW K H a xs/\ ∀ p,H p=Wx->Q (.ref p) (upd H p (.lst (oJ xs lo hi)))
theorem Hk:Gn X (Q2 X.K):=by
 intro pins s σ H x v vl vu lo hi sl Q I rx hs pl pu h;obtain⟨a,xs,rfl,hx,q⟩:=h;cases rx;obtain⟨ak,r,ht,hz⟩:=I.list hx;have hlen:=r.length;refine⟨"list",_,slot_list_getitem.lookup,ht.isList.typeIs,?_⟩;refine wpAny_getItem_list_slice ht.isList hs pl pu .none (by simp) ?_ (by rw[WZ]<;>omega);rw[rW,<- hlen];refine⟨.ref s.heap.objs.size,_,I.laid (t':=s.toks) (o:= .lst (oJ xs lo hi)) (λb ob q=>WB _ q) (WG _) ?_,rfl,q _ (I.bA.fresh (WG _))⟩;exact⟨Xb (oD xs lo hi) hz,_,0,(r.drop (HT.dq xs.length 0 lo)).take (HT.dq xs.length xs.length hi - HT.dq xs.length 0 lo),WS _ rfl⟩
noncomputable def jb:V->Bool
 | .non=>true
 | .bl _=>true
 | .int _=>true
 | .str _=>true
 | _=>false
noncomputable def G5:V->V->Bool
 | .non,.non=>true
 | .bl a,.bl b=>a == b
 | .bl a,.int b=>(if a then 1 else 0) == b
 | .int a,.bl b=>a == (if b then 1 else 0)
 | .int a,.int b=>a == b
 | .str a,.str b=>a == b
 | _,_=>false
theorem LQ(ry:RelV y u)(rx:RelV x v)(fy:jb y=true)(fx:jb x=true):SeqAt.EqAt A s u v (G5 y x):=by
 cases y with
 | non =>
  cases ry
  cases x with
  | non=>cases rx;exact SeqAt.EqAt.same _
  | bl b=>cases rx;exact SeqAt.EqAt.none_bool b
  | int b=>obtain⟨t,rfl⟩:=rx;exact SeqAt.EqAt.none_int b t
  | str b=>obtain⟨t,rfl⟩:=rx;exact SeqAt.EqAt.none_str b t
  | _=>exact absurd (show false=true from fx) W5
 | bl a =>
  cases ry
  cases x with
  | non=>cases rx;exact SeqAt.EqAt.bool_none a
  | bl b=>cases rx;exact SeqAt.EqAt.bool_bool a b
  | int b=>obtain⟨t,rfl⟩:=rx;exact SeqAt.EqAt.bool_int a b t
  | str b=>obtain⟨t,rfl⟩:=rx;exact SeqAt.EqAt.bool_str a b t
  | _=>exact absurd (show false=true from fx) W5
 | int a =>
  obtain⟨t',rfl⟩:=ry
  cases x with
  | non=>cases rx;exact SeqAt.EqAt.int_none a t'
  | bl b=>cases rx;exact SeqAt.EqAt.int_bool a t' b
  | int b=>obtain⟨t,rfl⟩:=rx;exact SeqAt.EqAt.int_int a t' b t
  | str b=>obtain⟨t,rfl⟩:=rx;exact adm a t' b t
  | _=>exact absurd (show false=true from fx) W5
 | str a =>
  obtain⟨t',rfl⟩:=ry
  cases x with
  | non=>cases rx;exact SeqAt.EqAt.str_none a t'
  | bl b=>cases rx;exact SeqAt.EqAt.str_bool a t' b
  | int b=>obtain⟨t,rfl⟩:=rx;exact adn a t' b t
  | str b=>obtain⟨t,rfl⟩:=rx;exact adu a t' b t
  | _=>exact absurd (show false=true from fx) W5
 | _=>exact absurd (show false=true from fy) W5
def yv x (u:WC):=match u with
 | .none=>G5 .non x
 | .bool b=>G5 (.bl b) x
 | .int i _=>G5 (.int i) x
 | .str z _=>G5 (.str z) x
 | _=>false
theorem ER(r:RelV y u)(f:jb y=true):yv x u=G5 y x:=by
 cases y with
 | non=>cases r;rfl
 | bl b=>cases r;rfl
 | int i=>obtain⟨t,rfl⟩:=r;rfl
 | str z=>obtain⟨t,rfl⟩:=r;rfl
 | _=>exact absurd (show false=true from f) W5
theorem lC: ∀{xs us},Vals xs us->xs.all jb=true->us.any (yv x)=xs.any λy=>G5 y x
 | _,_,.nil,_=>rfl
 | y::xs,u::us,.cons r t,f=>by
  rw[aab,WX] at f;rw[Yv,Yv,ER r f.1,lC t f.2]
theorem jn(rx:RelV x v)(fx:jb x=true): ∀{xs us},Vals xs us->xs.all jb=true-> ∀ u∈us,SeqAt.EqAt A s u v (yv x u)
 | _,_,.nil,_=>λu hu=>by cases hu
 | y::xs,u::us,.cons r t,f=>λu' hu=>by
  rw[aab,WX] at f;rcases WM.mp hu with rfl | hu
  . rw[ER r f.1];exact LQ r rx f.1 fx
  . exact jn rx fx t f.2 u' hu
def cL x (xs:List V):=xs.any λy=>G5 y x
def VF(K:Wz)(neg:Bool):R2:=λx y H Q=> ∃ p xs,y= .ref p/\(hW K H p xs\/fw K H p xs)/\jb x=true/\xs.all jb=true/\Q (.bl (if neg then !cL x xs else cL x xs)) H
theorem CD:cZ X (Xh .In) (VF X.K false):=by
 intro pins s σ H x y v u Q I rx ry h;obtain⟨p,xs,rfl,hq,fx,fs,q⟩:=h;cases ry;rcases hq with hq | hq
 . obtain⟨ak,r,pl,hz⟩:=I.list hq;refine SeqAt.in_listAt (yv x) pl.isList (λw hw=>jn rx fx r fs w (by simpa using hw)) ⟨.bl _,H,I,rfl,?_⟩;rw[show ak.toArray.any (yv x)=ak.any (yv x) by simp,lC r fs];exact q
 . obtain⟨ak,r,pl,hz⟩:=I.tuple hq;refine SeqAt.in_tupleAt (yv x) pl (λw hw=>jn rx fx r fs w (by simpa using hw)) ⟨.bl _,H,I,rfl,?_⟩;rw[show ak.toArray.any (yv x)=ak.any (yv x) by simp,lC r fs];exact q
theorem ui:cZ X (Xh .NotIn) (VF X.K true):=by
 intro pins s σ H x y v u Q I rx ry h;obtain⟨p,xs,rfl,hq,fx,fs,q⟩:=h;cases ry;rcases hq with hq | hq
 . obtain⟨ak,r,pl,hz⟩:=I.list hq;refine SeqAt.notIn_listAt (yv x) pl.isList (λw hw=>jn rx fx r fs w (by simpa using hw)) ⟨.bl _,H,I,rfl,?_⟩;rw[show ak.toArray.any (yv x)=ak.any (yv x) by simp,lC r fs];exact q
 . obtain⟨ak,r,pl,hz⟩:=I.tuple hq;refine SeqAt.notIn_tupleAt (yv x) pl (λw hw=>jn rx fx r fs w (by simpa using hw)) ⟨.bl _,H,I,rfl,?_⟩;rw[show ak.toArray.any (yv x)=ak.any (yv x) by simp,lC r fs];exact q
theorem uF:cZ X (Xh .NotIn) (λx y H Q=> ∃ i j,x= .str i/\y= .str j/\Q (.bl (!(!(Zj j i 0 j.length 1).isEmpty))) H):=by
 intro pins s σ H x y v u Q I rx ry h;obtain⟨i,j,rfl,rfl,q⟩:=h;obtain⟨t,rfl⟩:=rx;obtain⟨t',rfl⟩:=ry;exact notIn_str ⟨.bl _,H,I,rfl,q⟩
theorem vj:aS X (.builtin "len") (λxs H Q=> ∃ p ys,xs=[.ref p]/\(hW X.K H p ys\/fw X.K H p ys)/\Q (.int ys.length) H):=by
 intro pins s σ H xs us Q I r h;obtain⟨p,ys,rfl,hq,q⟩:=h;obtain⟨u,rfl,rx⟩:=vals1 r;cases rx;have hn:=kE;rcases hq with hq | hq
 . obtain⟨ak,r',pl,hz⟩:=I.list hq;have hlen:=r'.length;exact Calls.call_len_list pl.isList (by simp only[WZ]<;>omega) ⟨.int ys.length,H,I.tok _,⟨s.toks+1,by rw[WZ,hlen]⟩,q⟩
 . obtain⟨ak,r',pl,hz⟩:=I.tuple hq;have hlen:=r'.length;exact len_tuple pl (by simp only[WZ]<;>omega) ⟨.int ys.length,H,I.tok _,⟨s.toks+1,by rw[WZ,hlen]⟩,q⟩
theorem uz:aS X (.builtin "len") (λxs H Q=> ∃ z,xs=[.str z]/\z.length<=WJ/\Q (.int z.length) H):=by
 intro pins s σ H xs us Q I r h;obtain⟨z,rfl,hz,q⟩:=h;obtain⟨u,rfl,t,rfl⟩:=vals1 r;have hn:=kE;exact len_str (by omega) ⟨.int z.length,H,I.tok _,⟨_,rfl⟩,q⟩
theorem aS.or(h:aS X f r)(h':aS X f r'):aS X f (λxs H Q=>r xs H Q\/r' xs H Q):=by
 intro pins s σ H xs us Q I rs q;rcases q with q | q
 . exact h pins s σ H xs us Q I rs q
 . exact h' pins s σ H xs us Q I rs q
theorem uo:aS X (.type "list") (λxs H Q=> ∃ p ys,xs=[.ref p]/\(hW X.K H p ys\/fw X.K H p ys)/\ ∀ l,H l=Wx->Q (.ref l) (upd H l (.lst ys))):=by
 intro pins s σ H xs us Q I r h;obtain⟨p,ys,rfl,hq,q⟩:=h;obtain⟨u,rfl,rx⟩:=vals1 r;cases rx;have fin: ∀(ak:List WC),Vals ys ak->ys.length<=WJ-> ∀(h':X8)(c':Nat),(∀ b o',s.heap.get? b=Wv o'->h'.get? b=Wv o') ->
   h'.get? s.heap.objs.size=Wv { cls:= .type "list",dict:=Wx,data:= .seq ak.toArray c',slots:= #[]}->EP X pins σ Q (.ref s.heap.objs.size) { s with heap:=h'}:=λak r' hz h' c' kp e =>
  ⟨.ref s.heap.objs.size,_,I.laid (t':=s.toks) kp (WG _) (show aW X.prog X.w _ h' _ (.lst ys) from⟨hz,ak,c',r',e⟩),rfl,q _ (I.bA.fresh (WG _))⟩
 rcases hq with hq | hq
 . obtain⟨ak,r',pl,hz⟩:=I.list hq;have hlen:=r'.length;obtain⟨o,ho,hc,n,hd⟩:=pl.isList;exact call_list_seq p (.inl rfl) ho hc hd (λh' c' kp e=>fin ak r' hz h' c' kp e) (by simp only[WZ]<;>omega)
 . obtain⟨ak,r',pl,hz⟩:=I.tuple hq;have hlen:=r'.length;obtain⟨o,ho,hc,n,hd⟩:=pl;exact call_list_seq p (.inr rfl) ho hc hd (λh' c' kp e=>fin ak r' hz h' c' kp e) (by simp only[WZ]<;>omega)
theorem rS:aS X (.type "tuple") (λxs H Q=> ∃ p ys,xs=[.ref p]/\((hW X.K H p ys/\ ∀ l,H l=Wx->Q (.ref l) (upd H l (.tup ys)))\/(fw X.K H p ys/\Q (.ref p) H))):=by
 intro pins s σ H xs us Q I r h;obtain⟨p,ys,rfl,h⟩:=h;obtain⟨u,rfl,rx⟩:=vals1 r;cases rx;rcases h with⟨hq,q⟩ | ⟨hq,q⟩
 . obtain⟨ak,r',pl,hz⟩:=I.list hq;have hlen:=r'.length;refine call_tuple_list pl.isList (λh' kp=>?_) (by simp only[WZ]<;>omega);have I1:=I.kept (t':=s.toks) kp;have I2 :=
    I1.laid (t':=s.toks) (λb o e=>WB _ e) (WG _) (show aW X.prog X.w _ _ _ (.tup ys) from⟨hz,ak,r',rG.new _ _⟩)
   exact⟨.ref h'.objs.size,_,I2,rfl,q _ (I1.bA.fresh (WG _))⟩
 . obtain⟨ak,r',pl,hz⟩:=I.tuple hq;exact call_tuple_same pl ⟨.ref p,H,I,rfl,q⟩
def Ua(K:Wz)(T:String)(x:V)(H:Hp):Prop:=match x with
 | .str _=>T= "str"
 | .int _=>T= "int"
 | .ref p=>(T= "list" /\ ∃ xs,hW K H p xs)\/(T= "tuple" /\ ∃ o,K.lookup p=Wv o/\o.cls= .type "tuple" /\o.dict=Wx) \/
   (T= "dict" /\((∃ kvs,H p=Wv (.dK kvs))\/ ∃ kvs,H p=Wv (.dT kvs)))\/(T= "set" /\ ∃ S n,H p=Wv (.set S n))
 | _=>False
theorem Md{σ :St}(I:Inv X pins σ H s)(r:RelV x v)(ty:Ua X.K T x H) :
  s.TypeIs v T/\ ∀ a,v= .ref a-> ∃ ob,s.heap.get? a=Wv ob/\ob.dict=Wx:=by
 cases x with
 | str z =>
  obtain⟨t,rfl⟩:=r
  cases(show T= "str" from ty)
  exact⟨adt s z t,λ_ e=>by cases e⟩
 | int i =>
  obtain⟨t,rfl⟩:=r
  cases(show T= "int" from ty)
  exact⟨acj s i t,λ_ e=>by cases e⟩
 | ref p =>
  cases r
  rcases ty with⟨rfl,xs,hq⟩ | ⟨rfl,o,hk,hc,hd⟩ | ⟨rfl,hk⟩ | ⟨rfl,S,n,hk⟩
  . obtain⟨ak,_,pl,_⟩:=I.list hq;refine⟨pl.isList.typeIs,λa e=>?_⟩;cases e;obtain⟨o,n,e,c,hd,_⟩:=pl;exact⟨o,e,hd⟩
  . refine⟨⟨o,I.kL p o hk,hc⟩,λa e=>?_⟩;cases e;exact⟨o,I.kL _ o hk,hd⟩
  . have z: ∃ o,s.heap.get? p=Wv o/\o.ExactDict:=by
     rcases hk with⟨kvs,hk⟩ | ⟨kvs,hk⟩
     . obtain⟨_,_,_,_,o,_,_,e,ex,_⟩:=I.bA p _ hk;exact⟨o,e,ex⟩
     . obtain⟨_,_,_,_,o,_,_,e,ex,_⟩:=I.bA p _ hk;exact⟨o,e,ex⟩
    obtain⟨o,e,ex⟩:=z;refine⟨⟨o,e,ex.1⟩,λa e2=>?_⟩;cases e2;exact⟨o,e,ex.2.1⟩
  . obtain⟨o,_,_,_,e,ex,_⟩:=I.bA p _ hk;refine⟨⟨o,e,ex.1⟩,λa e2=>?_⟩;cases e2;exact⟨o,e,ex.2.1⟩
 | _=>exact YU ty
noncomputable def V4(K:Wz)(T:String)(r:V->List V->Hp->VK->Prop)(to:TE)(t:TA):TE:=fun σ H Q=>to σ H λx H1=>Ua K T x H1/\t σ H1 λxs H2=>r x xs H2 Q
variable{o e:XH}{es:List XH}{to:TE}{t:TA}{name:Str}{apos cpos:Pos}{T id:String}{r:V->List V->Hp->VK->Prop}
theorem Rm(pa:adv T)(slot:Slot T name id)(hty:typeOf (.builtin id)=pure (.type "method_descriptor"))(hm:KS X id r)(ho:PE X o to)(ha:PA X (e::es) t)
  (hbase:Zf o name X.env (Yu o X.env)=Yu o X.env:=by rfl)
  (hfew:((aat cpos (Xp (e::es) X.env)).all (λx=> !x.1)&&(backToKw cpos (aef [] X.env)).all (λx=>x.1.isSome)
   && decide ((e::es).length+([]:List ac4).length+(if ([]:List ac4).isEmpty then 0 else 1) < 30))=true:=by rfl)
  (hline:(apos.endLine == cpos.line)=true:=by rfl) (hs:Xp (e::es) X.env=(false,Yu e X.env)::Xp es X.env:=by rfl) (hplain:(aat cpos (Xp es X.env)).any (·.1)=false:=by rfl) :
  PE X (.Call (.Attribute o name apos) (e::es) [] cpos) (V4 X.K T r to t):=by
 intro pins s σ H Q I h;refine ack hbase hfew hline rfl (hV (ho pins s σ H _ I h) λv s1 x H1 I1 r1 ⟨ty,q1⟩=>?_);obtain⟨h1,h2⟩:=Md I1 r1 ty;refine⟨T,id,pa,slot,hty,h1,h2,?_⟩;have hA:=ha cpos pins s1 σ H1 _ I1 q1;rw[hs] at hA ⊢;refine aaz (by show(false||(aat cpos (Xp es X.env)).any (·.1))=false;rw[hplain]<;>rfl) (aaV ?_)
 exact Bm hA λus s2 vs H2 I2 r2 q2=>hm pins s2 σ H2 x vs v us Q I2 r1 r2 q2
/- xs.append(e),list.index on a module's tuple .. are KS facts of 06m -/
end
def Ur X (id:String) (r:V->List V->Hp->VK->Prop) :=
 ∀ pins s(σ :St) H x xs v us Q,Inv X pins σ H s->RelV x v->Vals xs us->r x xs H Q ->
  W3 (W8 X.prog X.w) X.A (call (.builtin id) (v::us)) (EP X pins σ Q) X.xe s
theorem Vals.one{x:V}{us:List WC}(h:Vals [x] us): ∃ u,us=[u]/\RelV x u:=by
 cases h with
 | cons r t=>cases t;exact⟨_,rfl,r⟩
theorem Vals.two{x y:V}{us:List WC}(h:Vals [x,y] us): ∃ u v,us=[u,v]/\RelV x u/\RelV y v:=by
 cases h with
 | cons r t=>cases t with
  | cons q t=>cases t;exact⟨_,_,rfl,r,q⟩
theorem Vals.zero: ∀{us},Vals [] us->us=[]
 | _,.nil=>rfl
theorem Vals.eraseIdx: ∀{xs us} i,Vals xs us->Vals (xs.eraseIdx i) (us.eraseIdx i)
 | _,_,_,.nil=> .nil
 | _,_,0,.cons _ t=>t
 | _,_,i+1,.cons r t=> .cons r (Vals.eraseIdx i t)
theorem Vals.rep(h:Vals xs us): ∀ k ,Vals (WO k xs).flatten (WO k us).flatten
 | 0=> .nil
 | k+1=>by
  exact Vals.append h (Vals.rep h k)
theorem sR{α :Type}: ∀(l:List α) i,(l.eraseIdx i).length<=l.length
 | [],_=>WG _
 | _::_,0=>abB _
 | _::r,i+1=>ab2 (sR r i)
theorem foldl_rep(ak:List WC): ∀ k acc,
  aew (λx1 x2=>x1++x2) acc.toArray (WO k ak.toArray)=(acc++(WO k ak).flatten).toArray
 | 0,acc=>by simp
 | k+1,acc=>by
  have e:acc.toArray++ak.toArray=(acc++ak).toArray:=by simp
  have e2:(acc++ak)++(WO k ak).flatten=acc++(WO (k+1) ak).flatten:=by
   rw[aa6,adI,WV]
  rw[<- e2,<- foldl_rep ak k (acc++ak),<- e,aa6,List.foldl_cons]
section
variable{X:Cx}{pins:List (W2 × Obj)}{σ :St}{H:Hp}{s:WK}{l b:W2}{xs ys zs:List V}
theorem Inv.RG{ak its':List WC}{n:Nat}{f:Array WC->Array WC}{t':Nat}(I:Inv X pins σ H s)(hH:H l=Wv (.lst xs))
  (e:s.heap.get? l=Wv { cls:= .type "list",data:= .seq ak.toArray n}) (hf:f ak.toArray=its'.toArray) (hv:Vals ys its') (hz:ys.length<=WJ) :
  Inv X pins σ (upd H l (.lst ys)) { s with heap:=s.heap.update l (X4 f),toks:=t'}:=by
 have q:=PySem.IsL.update e f;rw[hf] at q;refine I.write (x:=l) (e:=l) (by rw[hH];exact trivial) (.inl rfl) (λb' u hb hu=>(Yz s.heap (X4 f) (Za hb)).trans hu) ⟨_,q⟩ ?_;exact⟨hz,its',_,hv,q⟩
theorem Inv.RP(I:Inv X pins σ H s)(hv:Vals ys ak)(hz:ys.length<=WJ) :
  Inv X pins σ (upd H s.heap.objs.size (.lst ys)) { s with heap:=s.heap.push { cls:= .type "list",data:= .seq ak.toArray},toks:=t'} :=
 I.laid (λ_ _ q=>WB _ q) (WG _) ⟨hz,ak,0,hv,WS _ rfl⟩
theorem Inv.fresh(I:Inv X pins σ H s):H s.heap.objs.size=Wx:=I.bA.fresh (WG _)
theorem Inv.CI(I:Inv X pins σ H s)(hH:H l=Wv (.lst xs)):xs.length<=WJ/\ ∃(ak:List WC)(n:Nat),Vals xs ak/\xs.length=ak.length/\s.heap.get? l=Wv { cls:= .type "list",data:= .seq ak.toArray n}:=by
 obtain⟨z,ak,n,r,e⟩:=I.bA l _ hH;exact⟨z,ak,n,r,r.length,e⟩
theorem EE(h:n<=WJ):abL n=false:=by
 exact decide_eq_false (by omega)
end
section
variable{X:Cx}
def Hv:V->List V->Hp->VK->Prop:=λx vs H Q=> ∃ l xs y,x= .ref l/\vs=[y]/\H l=Wv (.lst xs)/\xs.length < WJ/\Q .non (upd H l (.lst (xs++[y])))
theorem Bt:Ur X "list.append" Hv:=by
 intro pins s σ H x vs v us Q I rx rv h;obtain⟨l,xs,y,rfl,rfl,hH,hz,q⟩:=h;cases rx;obtain⟨u,rfl,ru⟩:=rv.one;obtain⟨z,ak,n,r,hl,e⟩:=I.CI hH;refine YV F.slot_list_append ⟨_,e,rfl⟩ F.entry_list_append (F.args_list_append_2 _ _) (PySem.list_append l ak.toArray n u (by rw[WZ];omega)) ⟨e,?_⟩;refine⟨.non,_,I.RG (its':=ak++[u]) hH e (by simp) (r.append (.cons ru .nil)) ?_,rfl,q⟩;rw[WR,aaH];omega
def RN:R2:=λx y H Q=> ∃ l b xs zs,x= .ref l/\y= .ref b/\H l=Wv (.lst xs)/\H b=Wv (.lst zs)/\xs.length+zs.length<=WJ/\ ∀ p,H p=Wx->Q (.ref p) (upd H p (.lst (xs++zs)))
theorem PK:cZ X (Yg .Add) RN:=by
 intro pins s σ H x y v u Q I rx ry h;obtain⟨l,b,xs,zs,rfl,rfl,hH,hB,hz,q⟩:=h;cases rx;cases ry;obtain⟨z,ak,n,r,hl,e⟩:=I.CI hH;obtain⟨z2,its2,n2,r2,hl2,e2⟩:=I.CI hB;refine PySem.P.add_list e e2 ?_ (by rw[WZ,WZ];omega);have ea:ak.toArray++its2.toArray=(ak++its2).toArray:=by simp
 rw[ea];exact⟨.ref _,_,I.RP (t':=s.toks) (r.append r2) (by rw[WR];omega),rfl,q _ I.fresh⟩
def UG:R2:=λx y H Q=> ∃ l k xs,x= .ref l/\y= .int k/\H l=Wv (.lst xs)/\ -(2 ^ 63)<=k/\k < 2 ^ 63/\xs.length*k.toNat<=WJ /\
 ∀ p,H p=Wx->Q (.ref p) (upd H p (.lst (WO k.toNat xs).flatten))
theorem len_rep{α :Type}(xs:List α) k:(WO k xs).flatten.length=k*xs.length:=by
 induction k with
 | zero=>simp
 | succ k ih=>rw[aa6,adI,WR,ih,Nat.succ_mul,adJ]
theorem M7:cZ X (Yg .Mult) UG:=by
 intro pins s σ H x y v u Q I rx ry h;obtain⟨l,k,xs,rfl,rfl,hH,h1,h2,hz,q⟩:=h;cases rx;obtain⟨t,rfl⟩:=ry;obtain⟨z,ak,n,r,hl,e⟩:=I.CI hH;have hlen:ak.toArray.size*k.toNat<=WJ:=by rw[WZ,<- hl];exact hz
 have hcap: ¬ ak.toArray.size*k.toNat > (2 ^ 63 - 1) / 8:=by
  have:(WJ)<=(2 ^ 63 - 1) / 8:=by decide
  omega
 have hfit: ¬ (!Builtin.List.listFitsIndex k)=true:=by
  rw[fitsIndex_both h1 h2];exact W5
 have hlong: ¬ abL (ak.toArray.size*k.toNat)=true:=by
  rw[EE hlen];exact W5
 have hnew:aew (λx1 x2=>x1++x2) #[] (WO (if ak.toArray.isEmpty=true then 0 else k.toNat) ak.toArray)=(WO k.toNat ak).flatten.toArray:=by
  have f0:=λm=>by
   have:=foldl_rep ak m [];rw[XF] at this;exact this
  rw[f0];cases ak with
  | nil=>simp
  | cons a r'=>rw[if_neg (by simp)]
 refine abw (T:= "list") (U:= "int") (by decide) ⟨_,e,rfl⟩ (λs'=>acj s' k t) noFill_list_mul F.fills_int_mul F.slot_int_rmul repeat_list F.slot_int_index.lookup
  (YV F.slot_int_rmul (acj s k t) F.entry_int_rmul (F.args_int_rmul_2 _ _) (int___rmul___int_list k t l ak.toArray n)
   ⟨e,rfl,⟨_,e,rfl⟩,YV F.slot_list_mul ⟨_,e,rfl⟩ F.entry_list_mul (F.args_list_mul_2 _ _) (AutoListH.list___mul___list_int_3 l ak.toArray n k t hfit hcap hlong) ⟨e,?_⟩⟩)
 rw[hnew];exact⟨.ref _,_,I.RP (t':=s.toks) (r.rep k.toNat) (by rw[len_rep,adK];exact hz),rfl,q _ I.fresh⟩
end
end L2
namespace Att
open PySem PySem.W PySem.Calls PyProof.Rows
theorem oH: ∀ ns vs,WellAll P h vs (ns.map WData.int)->aes vs ns:=by
 intro ns
 induction ns with
 | nil =>
  intro vs w
  cases w
  exact .nil
 | cons n ns ih =>
  intro vs w
  cases w with
  | cons a b =>
   cases a
   exact .cons _ _ (ih _ b)
theorem BH{l : aaW}(hn : l.most = Wv n) 
    (hpre : l.row.toRowW.claim.pre args = true) (hwl : WellAll P h vals args) :
    ∃ a vs ns, vals = [W6 a] /\ args = [WData.list (ns.map WData.int)] /\ h.get? a = Wv { cls := .type "list", data := .seq vs.toArray} /\ aes vs ns /\ ns.length <= n := by
  have hsh : WShape.hasAll [] args [.list .int] = true := (pre_splitW hpre).1;have hc : l.pre.holds [] { args := args} = true := (pre_splitW hpre).2;obtain ⟨d, r, rfl, h1, h2⟩ := hasAllW_cons hsh;obtain rfl := hasAllW_nil h2;obtain ⟨xs, rfl, h3⟩ := hasW_list h1;obtain ⟨ns, rfl⟩ := items_int h3;have hlen : ns.length <= n := by
    have h4 : (WTm.not (.lt (.lit (.int (n))) (.len (.arg 0)))).holds [] { args := [.list (ns.map .int)]} = true := by
      have h4 := (holds_andW hc).1;rw [hn] at h4;exact h4
    have h5 := condW_of h4 (w_not (w_lt w_lit (w_len_list (w_arg rfl))))
    first
      | (exact absurd h5 (by decide))
      | (simp at h5; omega)
  cases hwl with
  | cons w1 w2 =>
    cases w2
    cases w1 with
    | list ho hall => exact ⟨_, _, ns, rfl, rfl, ho, oH ns _ hall, hlen⟩
theorem Bw(l:aaW) args:l.row.toRowW.claim.post args (.bool true) args=true :=
 postW_of (r:=l.row.toRowW) (X:=(true == true))
  (show WShape.has [] (.bool true) .bool=true by first | rfl | decide | simp [WShape.arms])
  (show(WTm.eq .res (.lit (.bool true))).value [] { args:=args,res:=Wv (.bool true),after:=args}=Wv (.bool (true == true)) from w_eq_bool (w_res rfl) w_lit) rfl
theorem xh{l:aaW}{n:Nat}{q:Xy}{loose:List Str}{XP:(Str->Option WC)->X8->Prop}{YP:X0->X8->Prop}{d:DefRec}
  (hn:l.most=Wv n) (hdf:d.params.defaults=[])
  (call: ∀(w:X0)(s₀ s₁ :WK)(mg mb:Str->Option WC)(fa:W2)(o:Obj)(pm cd doc:WC)(a:W2)(vs:List WC)(ns:List Int),
   Ground q loose [] XP w s₀ mg mb s₁.heap->YP w s₁.heap ->
   s₁.heap.get? fa=Wv o->o.data= .func (docDef d.name d.params d.body d.scope pm cd doc)->s₁.heap.CodeRec cd d.name->mg d.name=Wv (.ref fa) ->
   s₁.heap.get? a=Wv { cls:= .type "list",data:= .seq vs.toArray}->aes vs ns->ns.length<=n->s₁.gens= #[] ->
   aaR (W8 l.prog w) ac5 (.call (.ref fa) ⟨[.ref a],[]⟩) (λr s'=>r= .ok (.ret (.bool true))/\OldK s₁.heap s'.heap/\s'.os=s₁.os/\abz s'.gens) s₁) :
  aet q loose XP YP l.row.toRowW d [] (λf vs=>aex f vs):=by
 intro w s₀ s₁ mg mb G Y fa o pm cd doc dV kV ho hd hcd hD hmg hg args vals as hpre hlay hrd hwl hlo;obtain rfl:dV= .none:=Dflts.none hD hdf;obtain rfl:kV= .none:=Dflts.noKw hD;obtain⟨a,vs,ns,rfl,rfl,hobj,hints,hlen⟩:=BH hn hpre hwl;refine enter_call (adF (call w s₀ s₁ mg mb fa o pm cd doc a vs ns G Y ho (fd_plain hd) hcd hmg hobj hints hlen hg) λr s' hq=>?_);obtain⟨rfl,h2,h3,h4⟩:=hq;exact⟨.inl ⟨.bool true,.bool true,[],rfl,λ_=>rfl,.bool true,Bw l _,λ_=>⟨List.Pairwise.nil,λ_ hm=>(by cases hm)⟩⟩,h2,h3,h4⟩
section
variable{prog:Xy}{w:X0}{A:Yk}{E:WC->WK->Prop}{s:WK}{K:Wz}
noncomputable def ledger(h:X8) L d:=(Xj h.objs.size).filterMap λa=>if a=L\/a=d then Wx else(h.get? a).map λo=>(a,o)
end
end Att
namespace L2
open PySem PySem.Spec PyProof.Rows
theorem sX: ∀{vs ns},aes vs ns->Vals (ns.map V.int) vs
 | _,_,.nil=> .nil
 | _,_,.cons n t h=> .cons ⟨t,rfl⟩ (sX h)
def DJ(H:Hp):= ∀ b,H b=Wx\/ ∃ o xs,H b=Wv (.kU o (.lst xs))
theorem FA{K} 
  (KX:K.In s₁.heap) (hns:s₁.heap.Ns Xn mg) (hb:s₁.heap.Ns builtinsNs mb) (hbb: ∀ x:Str,x≠ "__name__" ->mb x=Yc x) (hlim:s₁.heap.NoLimit) (hg:s₁.gens= #[])
  (ha:s₁.heap.get? a=Wv { cls:= .type "list",data:= .seq vs.toArray}) (hi:aes vs ns) (hl:ns.length<=WJ) (hr:dH k ac5)
  (F: ∀ base ,K.In base->base.Ns Xn mg->lU P w K mg base CX k fa fd [x] sp) (hbind: ∀ s u,acf s fd ⟨[u],[]⟩ [(x,u)])
  (hsp: ∀ H ,DJ H->hW K H a (ns.map V.int)->sp [.ref a] H (λv _=>v= .bl true) λ_ _ _=>False)
  (hCX: ∀ H e s',CX [] H s₁ (λ_ _ _=>False) e s'->False) :
  aaR (W8 P w) ac5 (.call (.ref fa) ⟨[.ref a],[]⟩) (λr s'=>r= .ok (.ret (.bool true))/\OldK s₁.heap s'.heap/\s'.os=s₁.os/\abz s'.gens) s₁ :=by
 have rv:=sX hi;have lenV:=hi.length;have core: ∀ H ,DJ H->hW K H a (ns.map V.int)->kf P w H s₁.heap->(∀ b,H b≠Wx->b=a)->(H a≠Wx->K.lookup a=Wx) ->
   aaR (W8 P w) ac5 (.call (.ref fa) ⟨[.ref a],[]⟩) (λr s'=>r= .ok (.ret (.bool true))/\OldK s₁.heap s'.heap/\s'.os=s₁.os/\abz s'.gens) s₁ :=by
  intro H hO hS bA hA hK;have base_of: ∀{b:W2}{o:Obj},s₁.heap.get? b=Wv o->H b=Wx->(wF s₁.heap H).get? b=Wv o:=λe n=>Fq e n;have noA: ∀{b:W2}{o:Obj}{es:Array DictEntry}{ep:Nat},s₁.heap.get? b=Wv o->o.data= .dict es ep->H b=Wx:=λ{b o es ep} e d=>by
   cases q:H b with
   | none=>rfl
   | some u =>
    have e':=hA b (by rw[q];simp)
    subst e'
    rw[ha] at e;cases e
    have d':=d
    cases d'
  have nsK: ∀{b:W2}{m:Str->Option WC},s₁.heap.Ns b m->(wF s₁.heap H).Ns b m:=λ{b m}=>by rintro ⟨o,es,ep,e,d,r⟩;exact⟨o,es,ep,base_of e (noA e d),d,r⟩
  have hKb:=λb o e=>base_of (KX b o e) (by
   cases q:H b with
   | none=>rfl
   | some u =>
    have e':=hA b (by rw[q];simp)
    subst e'
    rw[hK (by rw[q];simp)] at e;cases e)
  have hM:Mod K mg (wF s₁.heap H):=⟨hKb,nsK hns,⟨mb,nsK hb,hbb⟩,by obtain⟨mc,h1,h2⟩:=hlim;exact⟨mc,nsK h1,h2⟩⟩
  have e0:yD P w K mg (wF s₁.heap H) ac5 [] s₁ H:=⟨rfl,hM,λb o e=>J3 e,Nat.le_of_eq (Cb _ _),trivial,λb hb=>absurd (show b∈([]) from hb) (by simp),bA,.of_eq hg⟩
  refine adF ((F _ hKb (nsK hns)).run ac5 [] s₁ H ⟨[.ref a],[]⟩ [.ref a] [.ref a] _ _ hr e0 (hbind s₁ (.ref a)) (.cons rfl .nil) (hsp H hO hS)) λr s' h=>?_;cases r with
  | error e=>exact(hCX H e s' h).elim
  | ok fl =>
   cases fl with
   | next=>exact YU h
   | brk=>exact YU h
   | cont=>exact YU h
   | ret u =>
    obtain⟨v,H',os,bare,un,hok',r',q⟩:=h
    have q':=q
    subst q'
    obtain rfl:u=aaL true:=r'
    refine⟨rfl,OldK.of_keep λb o e=>?_,os,bare⟩
    cases q:H b with
    | none=>exact un.keep b o e q (by intro z;exact absurd (show b∈([]) from z) (by simp)) (by simp)
    | some u =>
     rcases hO b with z | ⟨ob,xs,z⟩
     . rw[q] at z;cases z
     . have z2:=un.l9 b ob _ z;obtain⟨e1,_⟩:=bA b _ z;obtain⟨e2,_⟩:=hok' b _ z2;rw[e] at e1;cases e1;exact e2
 cases hk:K.lookup a with
 | some o =>
  have e:=KX a o hk
  rw[ha] at e
  cases e
  refine core (λ_=>Wx) (λ_=> .inl rfl) (.inr ⟨_,vs.toArray,_,hk,rfl,rfl,rfl,by rw[WZ,lenV];exact hl,by simpa using rv⟩) (λb u z=>by have z':=z;cases z') (λb z=>absurd rfl z) λz=>absurd rfl z
 | none =>
  refine core (λb=>if b=a then Wv (.kU { cls:= .type "list",data:= .seq vs.toArray} (.lst (ns.map V.int))) else Wx) (λb=>?_) (.inl (.inr ⟨{ cls:= .type "list",data:= .seq vs.toArray},if_pos rfl⟩)) (λb u z=>?_) (λb z=>?_) λ_=>hk
  . by_cases hb:b=a
    . exact .inr ⟨_,_,if_pos hb⟩
    . exact .inl (if_neg hb)
  . by_cases hb:b=a
    . have z':=(if_pos hb).symm.trans z;cases z';subst hb;exact⟨ha,by rw[Wy];exact hl,vs,_,rv,ha⟩
    . have z':=(if_neg hb).symm.trans z;cases z'
  . by_cases hb:b=a
    . exact hb
    . exact absurd (if_neg hb) z
theorem HQ{l:aaW}{n k:Nat}{q:Xy}{loose:List Str}{XP:(Str->Option WC)->X8->Prop}{YP:X0->X8->Prop}{d:DefRec}{K:Params->Wz}{CX:X0->KU}{sp:X0->Sp}{x:Str}
  (hn:l.most=Wv n) (hn2:n<=WJ) (hdf:d.params.defaults=[]) (hr:dH k ac5)
  (hY: ∀(w:X0)(h:X8),YP w h->(K w.params).In h)
  (F: ∀(w:X0)(mg:Str->Option WC)(fa:W2)(h:X8),(K w.params).In h->h.Ns Xn mg->mg d.name=Wv (.ref fa) ->
   ∃ fd:Z7,(∀(s:WK)(u:WC),acf s fd ⟨[u],[]⟩ [(x,u)]) /\
    ∀ base:X8,(K w.params).In base->base.Ns Xn mg->lU l.prog w (K w.params) mg base (CX w) k fa fd [x] (sp w))
  (hsp: ∀(w:X0)(H:Hp)(a:W2)(ns:List Int),ns.length<=n->DJ H->hW (K w.params) H a (ns.map V.int)->sp w [.ref a] H (λv _=>v= .bl true) λ_ _ _=>False)
  (hCX: ∀(w:X0)(H:Hp)(s:WK)(e:WC)(s':WK),CX w [] H s (λ_ _ _=>False) e s'->False) :
  aet q loose XP YP l.row.toRowW d [] (λf vs=>aex f vs):=by
 refine Att.xh hn hdf λw s₀ s₁ mg mb fa o pm cd doc a vs ns G Y ho hd hcd hmg hobj hints hlen hg=>?_;have KX:=hY w _ Y;obtain ⟨fd,hb,hF⟩:=F w mg fa _ KX G.T.g hmg;exact FA KX G.T.g G.T.b G.T.builtins G.T.nolimit hg hobj hints (Xb hlen hn2) hr hF hb (λH hO hS=>hsp w H a ns hlen hO hS) λH e s'=>hCX w H s₁ e s'
end L2
/- THE LAST THEOREM (shape; LID, My.* are yours):
   My.Adr: a structure of the addresses that your layer names (classes, functions); My.Txt K t: a structure (Prop) of the equations over K;
   My.txt_mk : {K} {implicit addresses ..} (e1 : Yo K Xn "law" = Wv (Wv (.ref f))) (e2 : K.lookup f = Wv ⟨oc, od, .func (Ym "law" "law" params body scope dV kV doc pm an cdv ct), sl⟩) (e3 : acm K cdv "law" = true) .. : ∃ t, My.Txt K t
set_option maxRecDepth 100000 in
(the tactic k_is has no namespace:write k_is) -/
namespace L2
open PySem PySem.Spec PyProof.Rows
noncomputable def df(s:acC):=match s with
 | .FunctionDef _ a _ _ _ _ _ _ _ _=>a
 | _=>{ posonlyargs:=[],args:=[],vararg:=Wx,kwonlyargs:=[],kw_defaults:=[],kwarg:=Wx,defaults:=[]}
noncomputable def bO(s:acC):=match s with
 | .FunctionDef _ _ b _ _ _ _ _ _ _=>b
 | _=>[]
noncomputable def aD(s:acC):=match s with
 | .FunctionDef _ _ _ _ _ _ sc _ _ _=>sc
 | _=>{ kind:= .function,names:=[],isGenerator:=false,isCoroutine:=false}
abbrev wZ:KU:=λ_ _ _ _ _ _=>False
abbrev E0:XK:=λ_ _ _=>False
theorem Qp:Passes wZ X E0:=λ_ _ _ _ _ _ _ h=>h.elim
structure CP(K:Wz)(x qual:Str)(st:acC)(f:W2)(fd:Z7):Prop where
 ex: ∃(oc:WC)(od:Option W2)(kV doc pm:WC)(an:Option W2)(cdv ct:WC)(osl:Array (Option WC)),
  fd=Ym x qual (df st) (bO st) (aD st) .none kV doc pm an cdv ct/\K.lookup f=Wv ⟨oc,od,.func fd,osl⟩/\acm K cdv qual=true
 kp:Zk K (.ref f)=true
section
variable{P:Xy}{w:X0}{K:Wz}{mg:Str->Option WC}{base:X8}
theorem CP.ok{st}(F:CP K x qual st f fd)(S:fU N ps (aD st))(len: ∀ vs H Q E,sp vs H Q E->vs.length=ps.length)
  (hbody: ∀ cdv A outer s H vs Q E,dH k (A.deeper (abj qual (aD st) s.heap.objs.size f cdv))->sp vs H Q E ->
   ∃ t,xI (lQ wZ P w K mg base N qual (aD st) f cdv A outer s H E).wq (bO st) t/\t { nx:=λ_ H'=>Q .non H',rt:=Q} (start N vs) H):lU P w K mg base wZ (k+1) f fd ps sp:=by
 obtain⟨oc,od,kV,doc,pm,an,cdv,ct,osl,rfl,lk,hcd⟩:=F.ex;refine R8 lk hcd S len λA outer s H vs Q E hr hsp=>?_;obtain⟨t,h,q⟩:=hbody cdv A outer s H vs Q E hr hsp;exact⟨t,h.wq,q⟩
theorem CP.binds{st}(F:CP K x qual st f fd)
  (h: ∀ kV doc pm an cdv ct us,us.length=ps.length->Z8 (Ym x qual (df st) (bO st) (aD st) .none kV doc pm an cdv ct) ⟨us,[]⟩=pure (ps.zip us)):Binds K fd ps []:=by
 obtain⟨oc,od,kV,doc,pm,an,cdv,ct,osl,rfl,lk,hcd⟩:=F.ex;exact .all (h kV doc pm an cdv ct)
theorem L4{st kV}(l:K.lookup f=Wv ⟨oc,od,.func (Ym x qual (df st) (bO st) (aD st) .none kV doc pm an cdv ct),osl⟩)
  (c:acm K cdv qual=true) (k:Zk K (.ref f)=true):CP K x qual st f (Ym x qual (df st) (bO st) (aD st) .none kV doc pm an cdv ct):=⟨⟨oc,od,kV,doc,pm,an,cdv,ct,osl,rfl,l,c⟩,k⟩
end
theorem SO(hr:dH k A):A.units+1 < ZV:=abl (Nat.add_le_add_left (by decide) _) hr.units
def sd(H H':Hp):= ∀ b o,H b=Wv o->H' b=Wv o
theorem sd.trans(a:sd H H1)(b:sd H1 H2):sd H H2:=λc o h=>b c o (a c o h)
theorem sd.free(e:sd H H')(h:H' l=Wx):H l=Wx:=by
 cases q:H l with
 | none=>rfl
 | some o =>
  rw[e l o q] at h
  cases h
open PySem PySem.W PyProof.Rows
section
variable{κ :Type}[DecidableEq κ]
noncomputable def iq(kvs:List (κ × V)) k:=(kvs.find? λkv=>decide (kv.1=k)).map (·.2)
noncomputable def putK kvs (k: κ) (v:V) :=
 if (kvs.any λkv=>decide (kv.1=k))=true then kvs.map (λkv=>if kv.1=k then(kv.1,v) else kv) else kvs++[(k,v)]
theorem qY{k: κ}(e:p.1=k):iq (p::r) k=Wv p.2:=by simp[iq,e]
theorem qe{k: κ}(e: ¬ p.1=k):iq (p::r) k=iq r k:=by simp[iq,e]
theorem wx(k: κ): ∀ kvs ,(kvs.any λkv=>decide (kv.1=k))=(iq kvs k).isSome
 | []=>rfl
 | p::r=>by
  rw[Yv];by_cases e:p.1=k
  . simp only[qY e,decide_eq_true e,Bool.true_or,adw]
  . rw[qe e,decide_eq_false e];exact wx k r
theorem jA kvs (k: κ) v:(putK kvs k v).length<=kvs.length+1:=by
 unfold putK;split
 . rw[Wy];omega
 . rw[WR,WE,Xf];omega
theorem mJ.ip(r:mJ o u):o.isSome=u.isSome:=by
 cases o with
 | none=>cases u with
  | none=>rfl
  | some _=>exact(show False from r).elim
 | some _=>cases u with
  | none=>exact(show False from r).elim
  | some _=>rfl
theorem mJ.getD(r:mJ o u)(rd:RelV d d'):RelV (o.getD d) (u.getD d'):=by
 cases o with
 | none=>cases u with
  | none=>exact rd
  | some _=>exact(show False from r).elim
 | some _=>cases u with
  | none=>exact(show False from r).elim
  | some _=>exact r
theorem KV.val(r:KV kvs vs)(k: κ):mJ (iq kvs k) (acn vs k):=by
 induction r with
 | nil=>exact Y4
 | @cons p q ps qs h t ih =>
  obtain⟨h1,h2⟩:=h
  by_cases e:p.1=k
  . have e':=h1.symm.trans e;have b:acn (q::qs) k=Wv q.2:=by simp[acn,e']
    rw[qY e,b];exact h2
  . have e': ¬ q.1=k:=λz=>e (h1.trans z);have b:acn (q::qs) k=acn qs k:=by simp[acn,e']
    rw[qe e,b];exact ih
theorem KV.any(r:KV kvs vs)(k: κ):(kvs.any λkv=>decide (kv.1=k))=vs.any λkv=>decide (kv.1=k):=by
 induction r with
 | nil=>rfl
 | cons h t ih=>rw[Yv,Yv,ih,h.1]
theorem KV.P9(r:KV kvs vs)(k: κ)(ry:RelV y u) :
  KV (kvs.map λkv=>if kv.1=k then(kv.1,y) else kv) (vs.map λkv=>if kv.1=k then(kv.1,u) else kv):=by
 induction r with
 | nil=>exact .nil
 | @cons p q ps qs h t ih =>
  rw[WH,WH]
  refine .cons ?_ ih
  obtain⟨h1,h2⟩:=h
  by_cases e:p.1=k
  . rw[if_pos e,if_pos (h1.symm.trans e)];exact⟨h1,ry⟩
  . rw[if_neg e,if_neg (λz=>e (h1.trans z))];exact⟨h1,h2⟩
theorem KV.put(r:KV kvs vs)(k: κ)(ry:RelV y u):KV (putK kvs k y) (stored vs k u):=by
 unfold putK stored;rw[r.any k];by_cases e:(vs.any λkv=>decide (kv.1=k))=true
 . rw[if_pos e,if_pos e];exact r.P9 k ry
 . rw[if_neg e,if_neg e];exact aeK r ⟨rfl,ry⟩
theorem KV.keys{kvs:List (κ × V)}{vs:List (κ × WC)}(r:KV kvs vs):kvs.map (·.1)=vs.map (·.1):=by
 induction r with
 | nil=>rfl
 | cons h t ih=>rw[WH,WH,ih,h.1]
theorem KV.length{kvs:List (κ × V)}{vs:List (κ × WC)}(r:KV kvs vs):kvs.length=vs.length:=Ze r
end
theorem mC(r:RelV (kV k) u):(aI P w).is k u=true:=by
 cases k with
 | inl i=>obtain⟨t,e⟩:=(show ∃ t,u=ZR i t from r);subst e;exact wg P w i t
 | inr x=>obtain⟨t,e⟩:=(show ∃ t,u=aaK x t from r);subst e;exact xr P w x t
theorem tq: ∀{ks us},Vals (ks.map kV) us->ItemsAre (aI P w) ks us
 | [],_,r=>by cases r;exact .nil
 | k::ks,_,r=>by
  cases r with
  | cons h t=>exact .cons (mC h) (tq t)
abbrev KT(H:Hp):List (List Key × V)->List (List Key × W2 × WC)->Prop:=XZ λp q=>p.1=q.1/\H q.2.1=Wv (.tup (p.1.map kV))/\RelV p.2 q.2.2
theorem KT.val(r:KT H kvs xs) k:mJ (iq kvs k) ((aeg xs k).map (·.2)):=by
 induction r with
 | nil=>exact Y4
 | @cons p q ps qs h t ih =>
  obtain⟨h1,_,h2⟩:=h
  by_cases e:p.1=k
  . have e':=h1.symm.trans e;have b:aeg (q::qs) k=Wv q.2:=by simp[aeg,e']
    rw[qY e,b];exact h2
  . have e': ¬ q.1=k:=λz=>e (h1.trans z);have b:aeg (q::qs) k=aeg qs k:=by simp[aeg,e']
    rw[qe e,b];exact ih
theorem KT.P9(r:KT H kvs xs) k (ry:RelV y u) :
  KT H (kvs.map λkv=>if kv.1=k then(kv.1,y) else kv) (xs.map (putAt k u)):=by
 induction r with
 | nil=>exact .nil
 | @cons p q ps qs h t ih =>
  rw[WH]
  refine .cons ?_ ih
  obtain⟨h1,h2,h3⟩:=h
  unfold putAt
  by_cases e:p.1=k
  . rw[if_pos e,if_pos (h1.symm.trans e)];exact⟨h1,h2,ry⟩
  . rw[if_neg e,if_neg (λz=>e (h1.trans z))];exact⟨h1,h2,h3⟩
theorem KT.put(r:KT H kvs xs) k (hb:H b=Wv (.tup (k.map kV))) (ry:RelV y u) :
  KT H (putK kvs k y) (storedH xs k b u):=by
 have e:(kvs.any λkv=>decide (kv.1=k))=(aeg xs k).isSome:=by
  rw[wx,(r.val k).ip,abC]
 unfold putK storedH;rw[e];by_cases q:(aeg xs k).isSome=true
 . rw[if_pos q,if_pos q];exact r.P9 k ry
 . rw[if_neg q,if_neg q];exact aeK r ⟨rfl,hb,ry⟩
theorem KT.keeps(r:KT H kvs xs)(ht: ∀ b ys,H b=Wv (.tup ys)->H' b=Wv (.tup ys)):KT H' kvs xs :=
 Paired.BG r λ_ _ z=>⟨z.1,ht _ _ z.2.1,z.2.2⟩
section
variable{P:Xy}{w:X0}{H:Hp}{h:X8}{a:W2}
theorem K6(ok:kf P w H h)(e:Rd H a u):aW P w H h a u:=e.ok ok
theorem oC(ok:kf P w H h)(e:Rd H a (.dK kvs)):kvs.length<=WJ/\(a == X9)=false/\ ∃ vs,KV kvs vs/\h.DictOf (aI P w) a vs :=
 show aW P w H h a (.dK kvs) from K6 ok e
theorem wa(ok:kf P w H h)(e:H a=Wv (.dK kvs)):kvs.length<=WJ/\(a == X9)=false/\ ∃ vs,KV kvs vs/\h.DictOf (aI P w) a vs:=oC ok (.inl e)
theorem nT(ok:kf P w H h)(e:H a=Wv (.tup (ks.map kV))):(abY (aI P w)).is h ks a:=by
 obtain⟨_,ak,r,o,h1,h2,n,h3,_⟩:=(show aW P w H h a (.tup (ks.map kV)) from ok a _ e)
 exact⟨o,ak.toArray,n,h1,h2,h3,by simpa using tq r⟩
theorem o9(ok:kf P w H h)(e:Rd H a (.dT kvs)):kvs.length<=WJ/\(a == X9)=false /\
  ∃ xs,KT H kvs xs/\h.DictOfH (abY (aI P w)) a xs:=by
 obtain⟨z,y,xs,r,o,es,ep,h1,h2,h3,h4,h5⟩:=(show aW P w H h a (.dT kvs) from K6 ok e)
 refine⟨z,y,xs,r,o,es,ep,h1,h2,h3,h4,λx hx=>?_,h5⟩;have all: ∀{l m},KT H l m-> ∀ x∈m,(abY (aI P w)).is h x.1 x.2.1:=by
  intro l m q
  induction q with
  | nil=>intro x hx;cases hx
  | @cons p q ps qs hq t ih =>
   intro x hx
   rcases WM.mp hx with e | hx
   . subst e;exact nT ok (by rw[<- hq.1];exact hq.2.1)
   . exact ih x hx
 exact all r x hx
theorem QH(ok:kf P w H h)(e:H a=Wv (.dT kvs)):kvs.length<=WJ/\(a == X9)=false /\
  ∃ xs,KT H kvs xs/\h.DictOfH (abY (aI P w)) a xs:=o9 ok (.inl e)
end
def ka H (a:W2) y (r:Option V) :=
 (∃ kvs k,Rd H a (.dK kvs)/\y=kV k/\r=iq kvs k)\/ ∃ kvs k b,Rd H a (.dT kvs)/\y= .ref b/\H b=Wv (.tup (k.map kV))/\r=iq kvs k
def yP H (a:W2) y v H' :=
 (∃ kvs k,H a=Wv (.dK kvs)/\y=kV k/\kvs.length < WJ/\H'=upd H a (.dK (putK kvs k v))) \/
 ∃ kvs k b,H a=Wv (.dT kvs)/\y= .ref b/\H b=Wv (.tup (k.map kV))/\kvs.length < WJ/\H'=upd H a (.dT (putK kvs k v))
theorem ka.k{H:Hp}{a:W2}{kvs:List (Key × V)}{k:Key}(e:H a=Wv (.dK kvs)):ka H a (kV k) (iq kvs k):= .inl ⟨kvs,k,.inl e,rfl,rfl⟩
theorem ka.t{H:Hp}{a b:W2}{kvs:List (List Key × V)}{k:List Key}(e:H a=Wv (.dT kvs))(eb:H b=Wv (.tup (k.map kV))):ka H a (.ref b) (iq kvs k):= .inr ⟨kvs,k,b,.inl e,rfl,eb,rfl⟩
theorem yP.k{H:Hp}{a:W2}{kvs:List (Key × V)}{k:Key}{v:V}(e:H a=Wv (.dK kvs))(hl:kvs.length < WJ):yP H a (kV k) v (upd H a (.dK (putK kvs k v))):= .inl ⟨kvs,k,e,rfl,hl,rfl⟩
theorem yP.t{H:Hp}{a b:W2}{kvs:List (List Key × V)}{k:List Key}{v:V}(e:H a=Wv (.dT kvs))(eb:H b=Wv (.tup (k.map kV)))(hl:kvs.length < WJ) :
  yP H a (.ref b) v (upd H a (.dT (putK kvs k v))):= .inr ⟨kvs,k,b,e,rfl,eb,hl,rfl⟩
section
variable{X:Cx}{pins:List (W2 × Obj)}{σ :St}{H:Hp}{s:WK}{a:W2}{y v:V}{u r:WC}{o:Option V}{A:Yk}{E:WC->WK->Prop}
theorem Inv.big(I:Inv X pins σ H s):X9 < s.heap.objs.size:=by
 have h:=(I.mod.glob.keeps I.bk).lt;exact ZT (by decide) h
theorem CJ(hu:A.units+1 < ZV)(I:Inv X pins σ H s)(g:ka H a y (Wv v))(ry:RelV y u)(h: ∀ w' s',Inv X pins σ H s'->RelV v w'->Q w' s') :
  W3 (W8 X.prog X.w) A (aaQ (.ref a) u) Q E s:=by
 rcases g with⟨kvs,k,e,ey,l⟩ | ⟨kvs,k,b,e,ey,eb,l⟩
 . subst ey;obtain⟨z,hd,vs,rel,dd⟩:=oC I.bA e;obtain⟨w',hw,rw'⟩:=mJ.some_of (v:=v) (o:=acn vs k) (by rw[l];exact rel.val k);exact wpAny_getItem_of (mC ry) dd.mapOf hw (h w' _ (I.tok _) rw')
 . subst ey;cases(show u=W6 b from ry);obtain⟨z,hd,xs,rel,dd⟩:=o9 I.bA e;obtain⟨w',hw,rw'⟩:=mJ.some_of (v:=v) (o:=(aeg xs k).map (·.2)) (by rw[l];exact rel.val k)
   obtain⟨p,hp,hp2⟩:=Option.map_eq_some_iff.mp hw;refine wpAny_getItem_heap (Zu hu) (nT I.bA eb) dd hp ?_;rw[hp2];exact h w' _ (I.tok _) rw'
theorem Vq{Q:WC->WK->Prop}(hu:A.units+1 < ZV)(I:Inv X pins σ H s)(g:ka H a y o)(ry:RelV y u)(h: ∀ s',Inv X pins σ H s'->Q (.bool o.isSome) s') :
  W3 (W8 X.prog X.w) A (Xh .In u (.ref a)) Q E s:=by
 rcases g with⟨kvs,k,e,ey,l⟩ | ⟨kvs,k,b,e,ey,eb,l⟩
 . subst ey;obtain⟨z,hd,vs,rel,dd⟩:=oC I.bA e;refine wpAny_in_of (mC ry) hd dd.mapOf ?_;rw[<- (rel.val k).ip,<- l];exact h _ (I.tok _)
 . subst ey;cases(show u=W6 b from ry);obtain⟨z,hd,xs,rel,dd⟩:=o9 I.bA e;refine wpAny_in_heap (Zu hu) (nT I.bA eb) hd dd ?_;have q:=(rel.val k).ip;rw[abC] at q;rw[<- q,<- l];exact h _ (I.tok _)
theorem Hf{Q:WC->WK->Prop}(hu:A.units+1 < ZV)(I:Inv X pins σ H s)(g:ka H a y o)(ry:RelV y u)(h: ∀ s',Inv X pins σ H s'->Q (.bool (!o.isSome)) s') :
  W3 (W8 X.prog X.w) A (Xh .NotIn u (.ref a)) Q E s:=by
 rcases g with⟨kvs,k,e,ey,l⟩ | ⟨kvs,k,b,e,ey,eb,l⟩
 . subst ey;obtain⟨z,hd,vs,rel,dd⟩:=oC I.bA e;refine wpAny_notIn_of (mC ry) hd dd.mapOf ?_;rw[<- (rel.val k).ip,<- l];exact h _ (I.tok _)
 . subst ey;cases(show u=W6 b from ry);obtain⟨z,hd,xs,rel,dd⟩:=o9 I.bA e;refine wpAny_notIn_heap (Zu hu) (nT I.bA eb) hd dd ?_;have q:=(rel.val k).ip;rw[abC] at q;rw[<- q,<- l];exact h _ (I.tok _)
theorem vb(I:Inv X pins σ H s)(mu:Q9 (H a))(hs:aa9 a s.heap h')(he: ∃ q,h'.get? a=Wv q)(new:aW X.prog X.w (upd H a ob) h' a ob) :
  Inv X pins σ (upd H a ob) { s with heap:=h',toks:=t'} :=
 I.write (x:=a) (e:=a) mu (.inl rfl) (λb q hb z=>(hs.2 b hb).trans z) he new
theorem uB(z:kvs.length<=WJ)(hd:(a == X9)=false)(rel:KV kvs vs)(dd:h'.DictOf (aI P w) a vs) :
  aW P w H' h' a (.dK kvs):=⟨z,hd,vs,rel,dd⟩
theorem Cc{H':Hp}{Q:Unit->WK->Prop}(hu:A.units+1 < ZV)(I:Inv X pins σ H s)(g:yP H a y v H')(ry:RelV y u)(rv:RelV v r)(h: ∀ s',Inv X pins σ H' s'->Q () s') :
  W3 (W8 X.prog X.w) A (adD (.ref a) u r) Q E s:=by
 rcases g with⟨kvs,k,e,ey,l,eH⟩ | ⟨kvs,k,b,e,ey,eb,l,eH⟩
 . subst ey eH;obtain⟨z,hd,vs,rel,dd⟩:=wa I.bA e;have hz:vs.length<=WJ:=by rw[<- rel.length];exact z
   have hl:(putK kvs k v).length<=WJ:=by have:=jA kvs k v;omega
   refine wpAny_setItem_pairs (hsz:=hz) (mC ry) dd λh' dd' hs=>h _ ?_;have he: ∃ q,h'.get? a=Wv q:=by obtain⟨q,_,_,hq,_⟩:=dd';exact⟨q,hq⟩
   exact vb I (by rw[e];exact Y4) hs he (uB hl hd (rel.put k rv) dd')
 . subst ey eH;cases(show u=W6 b from ry);obtain⟨z,hd,xs,rel,dd⟩:=QH I.bA e;have hz:xs.length<=WJ:=by rw[<- Ze rel];exact z
   have hl:(putK kvs k v).length<=WJ:=by have:=jA kvs k v;omega
   refine wpAny_setItem_heap (hsz:=hz) (Zu hu) (nT I.bA eb) dd λh' dd' hs=>h _ ?_;obtain⟨q,es,ep,hq,h2,h3,h4,_,h5⟩:=dd';refine vb I (by rw[e];exact Y4) hs ⟨q,hq⟩ ⟨hl,hd,_,(rel.put k eb rv).keeps λc ys ec=>?_,q,es,ep,hq,h2,h3,h4,h5⟩;rw[ax (sW ec e (λz=>by cases z))];exact ec
end
section
variable{X:Cx}{pins:List (W2 × Obj)}{σ :St}{H:Hp}{s:WK}{a:W2}{kvs:List (Key × V)}{k:Key}{u:WC}{A:Yk}{E:WC->WK->Prop}
theorem Sd{Q:WC->WK->Prop}(I:Inv X pins σ H s)(e:Rd H a (.dK kvs))(h: ∀ t s',Inv X pins σ H s'->Q (.int kvs.length t) s'):W3 (W8 X.prog X.w) A (call (.builtin "len") [.ref a]) Q E s:=by
 obtain⟨z,hd,vs,rel,dd⟩:=oC I.bA e;refine call_len_dict hd dd (by rw[<- rel.length];rw[sizeLine_eq] at z;omega) ?_;rw[<- rel.length];exact h _ _ (I.tok _)
end
def Hm i:= ∀ ov iv,abA i false ov iv=operate [ov,iv] (aaQ ov iv)
theorem G9{id} 
    (hl : ach (.type T) "__getitem__" = pure (Wv (.builtin id))) (hs : Hm slice)
    (h : W3 (W8 prog w) A (Yu value env) (λo s₁ => W3 (W8 prog w) A (Yu slice env) (λi s₂ => s₂.TypeIs o T /\ W3 (W8 prog w) A (aaQ o i) Q E s₂) E s₁) E s) :
    W3 (W8 prog w) A (Yu (.Subscript value slice pos) env) Q E s := by
  refine Subscript_ (XE h (λo s₁ h₁ => XE h₁ (λi s₂ h₂ => ?_) λ_ _ x => x) λ_ _ x => x);obtain ⟨hT, h₂⟩ := h₂;refine Ww ?_;refine Ww (aai hT hl ?_);have fin : W3 (W8 prog w) A (abA slice false o i) (λr s₃ => W3 (W8 prog w) A (letTemporaryGo value o r >>= λ_ => pure r) Q E s₃) E s₂ := by
    rw [hs o i];exact wpAny_operating (XE h₂ (λr s₃ h₃ => Ww (acN (WI h₃))) λ_ _ x => x)
  first
    | exact WI (Ww fin)
    | exact Ww (WI (Ww fin))
    | exact Ww fin
theorem xa{σ :St}(I:Inv X pins σ H s)(g:ka H a y o):s.TypeIs (.ref a) "dict" :=by
 rcases g with⟨kvs,k,e,_,_⟩ | ⟨kvs,k,b,e,_,_,_⟩
 . obtain⟨_,_,vs,_,dd⟩:=oC I.bA e;exact dd.typeIs
 . obtain⟨_,_,xs,_,dd⟩:=o9 I.bA e;exact dd.typeIs
theorem xt(h:X8)(hb:X9 < h.objs.size):aW P w H (h.push { cls:= .type "dict",data:= .dict #[]}) h.objs.size (.dK []) :=
 ⟨Xv _,beq_eq_false_iff_ne.mpr (Za (W7 hb)),[],.nil,acx h⟩
def Ds:TE:=λ_ H Q=> ∀ p,H p=Wx->Q (.ref p) (upd H p (.dK []))
section
variable{X:Cx}{pos:Pos}
theorem Ez:PE X (.Dict [] [] pos) Ds:=λpins s σ H Q I h =>
 wpAny_Dict_empty ⟨.ref s.heap.objs.size,_,I.laid (a:=s.heap.objs.size) (o:= .dK []) (t':=s.toks) (λ_ _ q=>WB _ q) (WG _) (xt s.heap I.big),rfl,h _ (I.bA.fresh (WG _))⟩
end
def m5:List (TE × TE)->St->Hp->(List (V × V)->Hp->Prop)->Prop
 | [],_,H,Q=>Q [] H
 | (tk,tv)::r, σ,H,Q=>tk σ H λx H1=>tv σ H1 λy H2=>m5 r σ H2 λps H3=>Q ((x,y)::ps) H3
abbrev VV:List (V × V)->List (WC × WC)->Prop:=XZ λp q=>RelV p.1 q.1∧RelV p.2 q.2
def Rz X pos (keys:List (Option XH)) (values:List XH) (trs:List (TE × TE)) :=
 ∀ pins s(σ :St) H Q,Inv X pins σ H s->m5 trs σ H Q ->
  W3 (W8 X.prog X.w) X.A (evalPairs (pairTrees keys values X.env pos)) (λvs s'=> ∃ ps H',Inv X pins σ H' s'/\VV ps vs/\Q ps H') X.xe s
theorem HJ:Rz X pos [] [] []:=λpins s σ H Q I h=>pairTrees_nil_walk ⟨[],H,I,.nil,h⟩
theorem Dz(hk:PE X k tk)(hv:PE X v tv)(hr:Rz X pos ks vs trs) :
  Rz X pos (Wv k::ks) (v::vs) ((tk,tv)::trs):=λpins s σ H Q I h =>
 pairTrees_cons_walk (hV (hk pins s σ H _ I h) λu s1 x H1 I1 rx q1=>hV (hv pins s1 σ H1 _ I1 q1) λw2 s2 y H2 I2 ry q2 =>
  oI (hr pins s2 σ H2 _ I2 q2) λws s3=>by rintro ⟨ps,H3,I3,rel,q3⟩;exact⟨(x,y)::ps,H3,I3,.cons ⟨rx,ry⟩ rel,q3⟩)
def cU(kvs more:List (Key × V)):=more.foldl (λacc kv=>putK acc kv.1 kv.2) kvs
theorem KV.merge: ∀{more rs kvs vs},KV more rs->KV kvs vs->KV (cU kvs more) (merged vs rs):=by
 intro more rs kvs vs r
 induction r generalizing kvs vs with
 | nil=>intro q;exact q
 | @cons p q ps qs h t ih =>
  intro r0
  have e:KV (putK kvs p.1 p.2) (stored vs q.1 q.2):=by
   have:=r0.put p.1 h.2;rw[<- h.1];exact this
  exact ih e
theorem eT: ∀ more kvs,(cU kvs more).length<=kvs.length+more.length
 | [],kvs=>by show kvs.length<=kvs.length+0;omega
 | p::r,kvs=>by
  have h1:=eT r (putK kvs p.1 p.2);have h2:=jA kvs p.1 p.2;show(cU (putK kvs p.1 p.2) r).length<=_;rw[WE];omega
theorem qK: ∀{kvs ws},VV (kvs.map λkv=>(kV kv.1,kv.2)) ws-> ∃ rs,Carries (aI P w) ws rs/\KV kvs rs
 | [],_,r=>by cases r;exact⟨[],Y4,.nil⟩
 | p::kvs,_,r=>by
  cases r with
  | @cons a b as bs h t =>
   obtain⟨rs,c,q⟩:=qK (P:=P) (w:=w) t
   obtain⟨b1,b2⟩:=b
   exact⟨(p.1,b2)::rs,⟨mC h.1,rfl,c⟩,.cons ⟨rfl,h.2⟩ q⟩
def KY(trs:List (TE × TE)):TE:=fun σ H Q=> ∀ p,H p=Wx->m5 trs σ (upd H p (.dK [])) λps H2=>H2 p=Wv (.dK [])/\ ∃ kvs ,ps=kvs.map (λkv=>(kV kv.1,kv.2))/\kvs.length<=15/\Q (.ref p) (upd H2 p (.dK (cU [] kvs)))
theorem G0(h:Rz X pos keys values trs)(hall:keys.all (·.isSome)=true)(hl:keys.length=values.length)(h0:keys≠[])
  (h15:keys.length<=15):PE X (.Dict keys values pos) (KY trs):=by
 intro pins s σ H Q I q;have hn:=I.bA.fresh (WG s.heap.objs.size);have I1:=I.laid (a:=s.heap.objs.size) (o:= .dK []) (h':=s.heap.push { cls:= .type "dict",data:= .dict #[]}) (t':=s.toks) (λ_ _ q=>WB _ q) (WG _) (xt s.heap I.big);refine wpAny_Dict_walk (knd:=aI X.prog X.w) hall hl h0 h15 (oI (h pins _ σ _ _ I1 (q _ hn)) λws s2 z9=>?_);obtain⟨ps,H2,I2,rel,e,kvs,ep,lk,q2⟩:=z9;subst ep;obtain⟨rs,c,rk⟩:=qK (P:=X.prog) (w:=X.w) rel;obtain⟨z,hd,vs0,r0,dd⟩:=wa I2.bA e;cases r0;refine⟨rs,c,dd,λh' dd' hs=>⟨.ref s.heap.objs.size,_,?_,rfl,q2⟩⟩;have hz:(cU [] kvs).length<=WJ:=by
  have h1:=eT kvs [];rw[Xf] at h1;rw[sizeLine_eq];omega
 have he: ∃ q,h'.get? s.heap.objs.size=Wv q:=by obtain⟨q,_,_,hq,_⟩:=dd';exact⟨q,hq⟩
 exact vb I2 (by rw[e];exact Y4) hs he (uB hz hd (rk.merge .nil) dd')
structure M1(X:Cx)(o:XH)(m:Str)(apos:Pos)(e:XH)(cpos:Pos):Prop where
 base:Zf o m X.env (Yu o X.env)=Yu o X.env
 mW:((aat cpos (Xp [e] X.env)).all (λx=> !x.1)&&(backToKw cpos (aef [] X.env)).all (λx=>x.1.isSome)
  && decide (([e]:List XH).length+([]:List ac4).length+(if ([]:List ac4).isEmpty then 0 else 1) < 30))=true
 line:(apos.endLine == cpos.line)=true
 trees:aat cpos (Xp [e] X.env)=[(false,Yu e X.env)]
structure M2(X:Cx)(o:XH)(m:Str)(apos:Pos)(e f:XH)(cpos:Pos):Prop where
 base:Zf o m X.env (Yu o X.env)=Yu o X.env
 mW:((aat cpos (Xp [e,f] X.env)).all (λx=> !x.1)&&(backToKw cpos (aef [] X.env)).all (λx=>x.1.isSome)
  && decide (([e,f]:List XH).length+([]:List ac4).length+(if ([]:List ac4).isEmpty then 0 else 1) < 30))=true
 line:(apos.endLine == cpos.line)=true
 trees:aat cpos (Xp [e,f] X.env)=[(false,Yu e X.env),(false,Yu f X.env)]
def VH H a:=(∃ kvs,Rd H a (.dK kvs))\/ ∃ kvs,Rd H a (.dT kvs)
theorem Mx{σ :St}(I:Inv X pins σ H s)(d:VH H a) :
  s.TypeIs (.ref a) "dict" /\(∀ b,W6 a= .ref b-> ∃ ob,s.heap.get? b=Wv ob/\ob.dict=Wx)/\(a == X9)=false:=by
 rcases d with⟨kvs,e⟩ | ⟨kvs,e⟩
 . obtain⟨_,hd,vs,_,dd⟩:=oC I.bA e;refine⟨dd.typeIs,λb q=>?_,hd⟩;cases q;obtain⟨ob,_,_,h1,h2,_⟩:=dd;exact⟨ob,h1,h2.2.1⟩
 . obtain⟨_,hd,xs,_,dd⟩:=o9 I.bA e;refine⟨dd.typeIs,λb q=>?_,hd⟩;cases q;obtain⟨ob,_,_,h1,h2,_⟩:=dd;exact⟨ob,h1,h2.2.1⟩
section
variable{X:Cx}{pins:List (W2 × Obj)}{σ :St}{H:Hp}{s:WK}{a:W2}{y d:V}{u r:WC}{o:Option V}{A:Yk}{E:WC->WK->Prop}
theorem M3(hu:A.units+1 < ZV)(I:Inv X pins σ H s)(g:ka H a y o)(ry:RelV y u)(rd:RelV d r)(h: ∀ w' s',Inv X pins σ H s'->RelV (o.getD d) w'->Q w' s') :
  W3 (W8 X.prog X.w) A (call (.builtin "dict.get") [.ref a,u,r]) Q E s:=by
 rcases g with⟨kvs,k,e,ey,l⟩ | ⟨kvs,k,b,e,ey,eb,l⟩
 . subst ey;obtain⟨z,hd,vs,rel,dd⟩:=oC I.bA e;refine call_meetsIn aaI dd.typeIs aco (ab3 _ _ _) (meets_dict_get_default (aI X.prog X.w) a (mC ry) hd r) ⟨_,dd.mapOf,h _ _ (I.tok _) ?_⟩;rw[l];exact(rel.val k).getD rd
 . subst ey;cases(show u=W6 b from ry);obtain⟨z,hd,xs,rel,dd⟩:=o9 I.bA e;refine call_meetsIn aaI dd.typeIs aco (ab3 _ _ _) (meetsH_dict_get_default (abY (aI X.prog X.w)) a b hd r) ⟨Zu hu,k,xs,nT I.bA eb,dd,h _ _ (I.tok _) ?_⟩;rw[l];exact(rel.val k).getD rd
end
noncomputable def C9(td ty tx:TE):TE:=fun σ H Q=>td σ H λx H1=> ∃ a,x= .ref a/\VH H1 a/\ty σ H1 λy H2=>tx σ H2 λz H3=> ∃ o,ka H3 a y o/\Q (o.getD z) H3
section
variable{X:Cx}{o e f:XH}{apos cpos:Pos}{td ty tx:TE}
theorem F9(hu:X.A.units+1 < ZV)(ho:PE X o td)(he:PE X e ty)(hf:PE X f tx)(m:M2 X o "get" apos e f cpos):PE X (.Call (.Attribute o "get" apos) [e,f] [] cpos) (C9 td ty tx):=by
 intro pins s σ H Q I h;refine wpAny_Call_method m.base m.mW m.line PySem.F.plainAttrs_dict aaI PySem.F.type_dict_get (hV (ho pins s σ H _ I h) λu s1 x H1 I1 rx ⟨a,ex,d,q1⟩=>?_);subst ex;obtain rfl:u=W6 a:=rx;obtain⟨t1,t2,_⟩:=Mx I1 d;refine⟨t1,t2,?_⟩;rw[m.trees];refine aaz rfl (aaV (Zq (hV (he pins s1 σ H1 _ I1 q1) λiv s2 y H2 I2 ry q2 =>
  Zq (hV (hf pins s2 σ H2 _ I2 q2) λfv s3 z H3 I3 rz ⟨ov,g,q3⟩=>aaw ?_))))
 exact M3 hu I3 g ry rz λw' s4 I4 rw'=>⟨_,H3,I4,rw',q3⟩
end
section
variable{X:Cx}
theorem A5:aS X (.builtin "len") (λxs H Q=> ∃ a kvs,xs=[V.ref a]/\H a=Wv (.dK kvs)/\Q (.int kvs.length) H):=by
 intro pins s σ H xs us Q I r h;obtain⟨a,kvs,rfl,ha,q⟩:=h;obtain⟨u,rfl,ru⟩:=vals1 r;cases ru;exact Sd I (.inl ha) λt s' I'=>⟨.int kvs.length,H,I',⟨t,rfl⟩,q⟩
end
noncomputable def mask(n:Str):Str:=⟨n.cps.push 0⟩
def jg(sc fn:List (Str × aaU))(N vars:List Str) :=
 sc.all (λp=>(p.2 != .cell||sc.lookup p.1 == Wv .cell)&&(p.2 != .free||(fn.lookup p.1 == Wv .cell||fn.lookup p.1 == Wv .free))&&(p.2 != .local||sc.lookup p.1 == Wv .local)) &&
 N.all (λn=>vars.contains n||(sc.lookup n !=Wv .local&&sc.lookup n !=Wv .cell))&&vars.all (λv=>sc.lookup (mask v) == Wx)
def mP(N vars:List Str):=N.map (λn=>if vars.contains n then mask n else n)++vars
def fK(X:Cx)(vars:List Str)(scope:aby)(cl:List (Str × W2))(C:W2)(s₀ :WK)(H₀ :Hp)(ex:List W2)(pn:List (W2 × Obj)):Cx :=
 { X with N:=mP X.N vars,env:=YX scope cl C X.env,s₀ :=s₀,H₀ :=H₀,outer:=X.stack,ex:=ex,fn:=λx=>scope.names.lookup x == Wv .cell,pn:=pn}
theorem kq(f : Str -> aaU -> aaU) x : ∀ names : List (Str × aaU), (names.map λp => (p.1, f p.1 p.2)).lookup x = (names.lookup x).map (f x)
  | [] => rfl
  | p :: r => by
    have ih := kq f x r;rw [WH, Y3, Y3, ih];cases q : x == p.1 with
    | true => obtain rfl : x = p.1 := by simpa using q
              rfl
    | false => rfl
theorem jl{env:Env}{names:List (Str × aaU)} :
  (names.map λ(n,k)=>if (k == Y1&&env.scope.kind == .function&&env.kindOf n == Wv .cell) then (n,Y2) else (n,k)).lookup x =
   (names.lookup x).map λk=>if (k == Y1&&env.scope.kind == .function&&env.kindOf x == Wv .cell) then Y2 else k:=by
 rw[<- kq (λn k=>if (k == Y1&&env.scope.kind == .function&&env.kindOf n == Wv .cell) then Y2 else k) x names];congr 2
 funext p
 show(if _ then _ else _)=_;split<;>rename_i z<;>simp[z]
theorem lookup_mem{β :Type}{c}: ∀{l:List (Str × β)},l.lookup x=Wv c->(x,c)∈l
 | [],h=>by simp at h
 | p::r,h=>by
  rw[Y3] at h;cases q:x == p.1 with
  | true =>
   rw[q] at h
   obtain rfl:x=p.1:=by simpa using q
   obtain rfl:p.2=c:=by simpa using h
   exact WW
  | false=>rw[q] at h;exact WY _ (lookup_mem h)
theorem fX{β :Type}{c}: ∀{l:List (Str × β)},(x,c)∈l-> ∃ d,l.lookup x=Wv d
 | [],h=>by cases h
 | (n,k)::r,h=>by
  cases hx:x == n with
  | true=>exact⟨k,by simp only[Y3,hx]⟩
  | false =>
   have h':(x,c)∈r:=by
    rcases WM.mp h with e | e
    . cases e;simp at hx
    . exact e
   obtain⟨d,q⟩:=fX h'
   exact⟨d,by simp only[Y3,hx];exact q⟩
theorem kN: ∀(names:List (Str × aaU)) acc,(∀ p∈names,p.2= .free-> ∃ c,env.cells.lookup p.1=Wv c) ->
  ∃ cl,(forIn names acc λ(x:Str × aaU) (r)=>(match x with | (name,kind)=>if (kind == Y1)=true then do let a <- cellOf env name;pure (ZA ((name,a)::r)) else pure (ZA r)))=pure cl /\
   (∀ p∈cl,p∈acc\/env.cells.lookup p.1=Wv p.2)/\(∀ p∈acc,p∈cl)/\ ∀ p∈names,p.2= .free-> ∃ c,(p.1,c)∈cl
 | [],acc,_=>⟨acc,rfl,λp h=> .inl h,λp h=>h,λp h=>by cases h⟩
 | (n,k)::r,acc,h=>by
  by_cases hk:(k == Y1)=true
  . obtain⟨c,hc⟩:=h (n,k) WW (by simpa using hk);obtain⟨cl,e,h1,h2,h3⟩:=kN r ((n,c)::acc) λp hp=>h p (WY _ hp);refine⟨cl,?_,λp hp=>?_,λp hp=>h2 p (WY _ hp),λp hp hf=>?_⟩
    . rw[Yr];have z:cellOf env n=pure c:=by unfold cellOf;have hc':=hc;rw[hc']
      simp only[hk,z];exact e
    . rcases h1 p hp with q | q
      . rcases WM.mp q with q | q
        . exact .inr (by rw[q];exact hc)
        . exact .inl q
      . exact .inr q
    . rcases WM.mp hp with q | q
      . exact⟨c,by rw[q];exact h2 _ WW⟩
      . exact h3 p q hf
  . obtain⟨cl,e,h1,h2,h3⟩:=kN r acc λp hp=>h p (WY _ hp);refine⟨cl,?_,h1,h2,λp hp hf=>?_⟩
    . rw[Yr];simp only[if_neg hk];exact e
    . rcases WM.mp hp with q | q
      . rw[q] at hf;exact absurd (by simpa using hf) hk
      . exact h3 p q hf
theorem pd(h: ∀ p∈scope.names,p.2= .free-> ∃ c,env.cells.lookup p.1=Wv c) :
  ∃ cl,closureFor scope env=pure cl/\(∀ x c,cl.lookup x=Wv c->env.cells.lookup x=Wv c)/\ ∀ x,scope.names.lookup x=Wv .free-> ∃ c,cl.lookup x=Wv c:=by
 obtain⟨cl,e,h1,_,h3⟩:=kN scope.names [] h;refine⟨cl,?_,λx c q=>?_,λx q=>?_⟩
 . show(forIn scope.names ([]) _ >>= λr=>pure r)=_
   erw [e]
   rfl
 . rcases h1 _ (lookup_mem q) with z | z
   . cases z
   . exact z
 . obtain⟨c,q'⟩:=h3 _ (lookup_mem q) rfl;exact fX q'
theorem yV: ∀ names(h:X8) acc x c,(ZI h.objs.size names acc).lookup x=Wv c ->
  ((x,Y2) ∉ names/\acc.lookup x=Wv c)\/((x,Y2)∈names/\h.objs.size<=c/\(ab4 h names).IsCell c Wx)
 | [],_,_,_,_,e=> .inl ⟨λz=>(by cases z),e⟩
 | (name,kind)::r,h,acc,x,c,e=>by
  unfold ZI at e;unfold ab4;split at e
  . rename_i hk;have hk':kind= .cell:=by simpa using hk
    subst hk';have hz:(h.push { cls:= .type "cell",data:= .cell Wx}).objs.size=h.objs.size+1:=XT ..;rw[<- hz] at e;rcases yV r _ _ x c e with⟨n,q⟩ | ⟨m,le,q⟩
    . rw[Y3] at q;cases hx:x == name with
      | true =>
       rw[hx] at q
       cases q
       rw[show x=name by simpa using hx]
       exact .inr ⟨WW,WG _,_,acy _ _ _ _ (WS _ rfl),rfl⟩
      | false =>
       rw[hx] at q
       refine .inl ⟨λz=>?_,q⟩
       rcases WM.mp z with w | w
       . cases w;simp at hx
       . exact n w
    . exact .inr ⟨WY _ m,by rw[hz] at le;exact Nat.le_of_succ_le le,q⟩
  . rename_i hk;rw[if_neg hk];rcases yV r h acc x c e with⟨n,q⟩ | ⟨m,q⟩
    . refine .inl ⟨λz=>?_,q⟩;rcases WM.mp z with w | w
      . cases w;simp at hk
      . exact n w
    . exact .inr ⟨WY _ m,q⟩
theorem xM{lo:Nat}: ∀ names(n:Nat)(acc:List (Str × W2)),(∀ x y c,acc.lookup x=Wv c->acc.lookup y=Wv c->lo<=c->x=y)->(∀ x c,acc.lookup x=Wv c->c < n) ->
  ∀ x y c,(ZI n names acc).lookup x=Wv c->(ZI n names acc).lookup y=Wv c->lo<=c->x=y
 | [],_,_,h,_=>h
 | (name,kind)::r,n,acc,h,hn=>by
  unfold ZI;split
  . have at_: ∀ z d,((name,n)::acc).lookup z=Wv d->(z=name/\d=n)\/acc.lookup z=Wv d:=λz d e=>by
     rw[Y3] at e;cases hz:z == name with
     | true=>rw[hz] at e;cases e;exact .inl ⟨by simpa using hz,rfl⟩
     | false=>rw[hz] at e;exact .inr e
    refine xM r (n+1) _ (λx y c e1 e2 hl=>?_) λx c e=>?_
    . rcases at_ x c e1 with⟨a,b⟩ | a<;>rcases at_ y c e2 with⟨a',b'⟩ | a'
      . rw[a,a']
      . exact absurd (hn y c a') (by rw[b];exact Xt _)
      . exact absurd (hn x c a) (by rw[b'];exact Xt _)
      . exact h x y c a a' hl
    . rcases at_ x c e with⟨_,b⟩ | a
      . rw[b];exact ZS _
      . exact Zb (hn x c a)
  . exact xM r n acc h hn
theorem sy{M:Model}{A:Yk}{E:WC->WK->Prop}{s:WK}{scope:aby}{globals:W2}{cl:List (Str × W2)}{qual:Str}{outer:Env}{Q:Env->WK->Prop}
  (h:Q { scope:=scope,locals:=s.heap.objs.size,globals:=globals,cells:=ZI (s.heap.objs.size+1) scope.names cl,qual:=qual,func:=Wx,code:=outer.code,frame:=outer.frame,builtins:=outer.builtins}
   { s with heap:=ab4 (s.heap.push { cls:= .type "dict",data:= .dict #[]}) scope.names}):W3 M A (acO scope globals cl [] qual Wx .none (Wv outer)) Q E s:=by
 simp only[acO,adw,if_true];refine Ww (wpAny_alloc (Ww (wpAny_layCells _ (λname kind cells=>by cases hkc:kind == Y2<;>simp[hkc]) _ _ _ _ ?_)));rw[show({ s with heap:=s.heap.push { cls:= .type "dict",data:= .dict #[]}}:WK).heap.objs.size=s.heap.objs.size+1 from XT ..];exact Ww (by exact WI (WI h))
noncomputable def Ho(cs:List XH) v :=
 forIn cs true λc r=>if r=true then(adZ c v (Yu c v) >>= λok=>pure (ZA ok)) else pure (ZA r)
def yd M A v e acc (X:WC->WK->Prop) (D:WK->Prop):=λok u=>if ok=true then
  W3 M A (Yu e v) (λx u1=>W3 M A (call (.builtin "list.append") [acc,x]) (λ_ u2=>D u2) X u1) X u
 else D u
def Np(M:Model)(A:Yk) v tg e (cs:List XH) (it acc:WC) (X:WC->WK->Prop) (D:WK->Prop) (i:WC) (u:WK) :=
 W3 M A (acw tg it i) (λ_ u1=>W3 M A (aa1 tg v i) (λ_ u2=>W3 M A (Ho cs v) (yd M A v e acc X D) X u2) X u1) X u
theorem pJ{prog:Xy}{w:X0}{A:Yk}{R:Result->WK->Prop}{s:WK}{elt target iter:XH}{ifs:List XH}{scope:aby}{pos:Pos}{it acc:WC}{env:Env}(I:Nat->WK->Prop)
  (turn: ∀ k u,I k u->W3 (W8 prog w) A (acL it) (λr u1=>match r with
   | none=>R (.ok .next) u1
   | some i=>Np (W8 prog w) A env target elt ifs it acc (notedBy (W8 prog w) A env λe s'=>R (.error e) s') (λu2=> ∃ m,m < k/\I m u2) i u1) (notedBy (W8 prog w) A env λe s'=>R (.error e) s') u)
  (n:Nat) (h:I n s):aaR (W8 prog w) A (.compLoop (.ListComp elt [⟨target,iter,ifs,0⟩] scope pos) 0 it acc env) R s:=by
 refine codeAny_loop rfl I (λk u hu=>wpAny_noted (m:=compTurn (.ListComp elt [⟨target,iter,ifs,0⟩] scope pos) 0 it acc env) ?_) n h;rw[compTurn_list];refine Ww (adi (Ww (XE (turn k u hu) (λr u1 g=>?_) λ_ _ z=>z)))
 match r,g with
 | none,g=>exact WI g
 | some i,g =>
  refine Ww (XE g (λ_ _ g=>Ww (XE g (λ_ _ g=>Ww (XE g (λok u4 g=>?_) λ_ _ z=>z)) λ_ _ z=>z)) λ_ _ z=>z)
  match ok,g with
  | false,g=>exact WI (ab5 rfl g)
  | true,g=>exact Ww (Ww (XE g (λ_ _ g=>Ww (XE g (λ_ _ g=>WI (WI (ab5 rfl g))) λ_ _ z=>z)) λ_ _ z=>z))
def PF X (ifs:List XH) (t:TT) :=
 ∀ pins s(σ :St) H Q,Inv X pins σ H s->t σ H Q ->
  W3 (W8 X.prog X.w) X.A (forIn ifs true λc r=>if r=true then do let ok <- adZ c X.env (Yu c X.env);pure (ZA ok) else pure (ZA r)) (TP X pins σ Q) X.xe s
noncomputable def Ls:TT:=λ_ H Q=>Q true H
theorem N0:PF X [] Ls:=λ_ _ σ H Q I h=>wpAny_tests_nil ⟨H,I,h⟩
theorem Mc(h:PT X c t):PF X [c] t:=λpins s σ H Q I q=>wpAny_tests_one (h pins s σ H Q I q)
def Uv(k:Nat)(wi:TI)(g:TG)(tt:TT)(te:TE):TE:=fun σ H Q=>wi σ H λJ H1=> ∃ W:Nat->Nat->List V->Hp->Prop,(∃ m,W 0 m [] H1)/\ ∀ i m ys H,W i m ys H ->
 (J.stop i H/\ ∀ p,H p=Wx->Q (.ref p) (upd H p (.lst ys))) \/
 (J.go i H/\ys.length < WJ/\ ∀ x H',J.Kz i H x H'->g x (σ ++WO k Wx) H' fun σ2 H2=>tt σ2 H2 λb H3 =>
  if b=true then te σ2 H3 λy H4=> ∃ m',m' < m/\W (i+1) m' (ys++[y]) H4 else ∃ m',m' < m/\W (i+1) m' ys H3)
section
variable{X:Cx}{pins:List (W2 × Obj)}{σ :St}{H:Hp}{s:WK}{scope:aby}{vars:List Str}{cl:List (Str × W2)}
theorem jP(h:jg scope.names X.env.scope.names X.N vars=true): ∀ p∈scope.names,(p.2= .cell->scope.names.lookup p.1=Wv .cell)/\(p.2= .free->X.env.kindOf p.1=Wv .cell\/X.env.kindOf p.1=Wv .free)/\(p.2= .local->scope.names.lookup p.1=Wv .local):=by
 intro p hp;unfold jg at h;simp only[WX,ZU] at h;obtain⟨⟨h1,_⟩,_⟩:=h;have q:=h1 p hp;simp only[ZC,bne_iff_ne,beq_iff_eq] at q;obtain⟨⟨q1,q2⟩,q3⟩:=q;refine⟨λe=>?_,λe=>?_,λe=>?_⟩
 . rcases q1 with z | z
   . exact absurd e z
   . exact z
 . rcases q2 with z | z
   . exact absurd e z
   . exact z
 . rcases q3 with z | z
   . exact absurd e z
   . exact z
theorem OY(h:jg scope.names X.env.scope.names X.N vars=true): ∀ n∈X.N,¬ n∈vars->scope.names.lookup n≠Wv .local/\scope.names.lookup n≠Wv .cell:=by
 intro n hn hv;unfold jg at h;simp only[WX,ZU] at h;obtain⟨⟨_,h2⟩,_⟩:=h;have q:=h2 n hn;simp only[ZC,WX,bne_iff_ne,List.contains_iff_mem] at q;exact q.resolve_left hv
theorem BS(h:jg scope.names X.env.scope.names X.N vars=true): ∀ n∈vars,scope.names.lookup (mask n)=Wx:=by
 intro n hn;unfold jg at h;simp only[WX,ZU] at h;simpa using h.2 n hn
theorem Inv.fK{C:W2}(I:Inv X pins σ H s)(hkind:scope.kind= .function)(hlc:jg scope.names X.env.scope.names X.N vars=true)
  (hc1: ∀ x c,cl.lookup x=Wv c->(scope.names.lookup x≠Wv .cell/\X.env.cells.lookup x=Wv c)\/(scope.names.lookup x=Wv .cell/\s.heap.objs.size<=c/\h'.IsCell c Wx)) (hc2: ∀ x,scope.names.lookup x=Wv .free\/scope.names.lookup x=Wv .cell-> ∃ c,cl.lookup x=Wv c)
  (hci: ∀ x y c,cl.lookup x=Wv c->cl.lookup y=Wv c->s.heap.objs.size<=c->x=y)
  (hfp: ∀ b∈fp,iD X pins H b) (hfo: ∀ b∈fp,∃ o,s.heap.get? b=Wv o) (hC:s.heap.objs.size<=C) (hn:h'.Ns C m') (k: ∀ b o,s.heap.get? b=Wv o->h'.get? b=Wv o) :
  Inv (fK X vars scope cl C s H fp (X.pn++pins)) [] (σ ++WO vars.length Wx) H { s with heap:=h',toks:=t'}:=by
 have hHC:=I.bA.fresh hC;have lt: ∀ x c,X.env.cells.lookup x=Wv c->c < s.heap.objs.size:=λx c e=>by obtain⟨v,q⟩:=I.cell x c e;exact q.lt
 refine⟨?ok,rfl,I.bare,Un.kept k,⟨m',hn,?loc⟩,λx c e=>?cell,hHC,λx c e=>(hc1 x c e).elim (λz=>I.jv x c z.2) (λz=>I.bA.fresh z.2.1),?pin,I.bA.kept k,?len⟩
 case ok =>
  refine{ mod:=I.ok.mod,kind:=?_,glob:=I.ok.glob,blt:=I.ok.blt,above:=hC,inj:=?_,has:=?_,Qb:=?_,hd:=I.ok.hd,frames:=I.ok.frames,Ss:= .inl rfl,UA:=?_,bs:=I.bs,Gh:=Xb I.ok.Gh I.sz,Bf:=?_,Du:=?_,mS:=I.stack,KO:=I.AS}
  . exact hkind
  . intro x y c e1 e2;rcases hc1 x c e1 with z | z
    . rcases hc1 y c e2 with w | w
      . exact I.ok.inj x y c z.2 w.2
      . exact absurd (WQ (lt x c z.2) w.2.1) (Xt _)
    . exact hci x y c e1 e2 z.2.1
  . intro x hx;have hx':(YX scope cl C X.env).kindOf x=Wv .cell\/(YX scope cl C X.env).kindOf x=Wv .free:=hx;have e:(YX scope cl C X.env).kindOf x=(scope.names.lookup x).map λk=>if (k == Y1&&X.env.scope.kind == .function&&X.env.kindOf x == Wv .cell) then Y2 else k:=jl
    rw[e] at hx';cases q:scope.names.lookup x with
    | none=>rw[q] at hx';simp at hx'
    | some kd =>
     by_cases hf:kd= .free
     . subst hf;exact hc2 x (.inl q)
     . rw[q] at hx';have hf':(kd == Y1)=false:=by simpa using hf
       simp only[YW,hf',acP,Zv,if_false,Zc] at hx';rcases hx' with z | z
       . exact hc2 x (.inr (by rw[q,z]))
       . exact absurd z hf
  . intro x c hx e;have hx':(scope.names.lookup x == Wv Y2)=true:=hx;rcases hc1 x c e with z | z
    . exact absurd (by simpa using hx') z.1
    . exact z.2.1
  . intro b hb;have f:=hfp b hb;obtain⟨o,e⟩:=hfo b hb;exact⟨W7 (WQ (WN e) hC),λx c e z=>(hc1 x c e).elim (λw=>f.2.2.2.2.1 x c w.2 z) (λw=>absurd (WQ (WN (z ▸ ‹_› :s.heap.get? c=Wv o)) w.2.1) (Xt _))⟩
  . intro b o e hb;have f:=hfp b hb;rcases f.2.2.2.1 with z | z
    . exact I.ok.Bf b o e z
    . exact absurd (WQ (WN (I.ok.bs b o e).1) z) (Xt _)
  . intro b hb z;have f:=hfp b hb;rcases WM.mp (I.nP b z) with q | q
    . exact f.2.1 q
    . exact f.2.2.1 q
 case loc =>
  intro i x v e1 e2 e3
  have e1':(mP X.N vars)[i]?=Wv x:=e1
  have e:(YX scope cl C X.env).scope.names.lookup x=(scope.names.lookup x).map λk=>if (k == Y1&&X.env.scope.kind == .function&&X.env.kindOf x == Wv .cell) then Y2 else k:=jl
  by_cases hi:i < σ.length
  . rw[Xu hi] at e2;unfold mP at e1';rw[Xu (by rw[Wy,<- I.len];exact hi),WT] at e1';cases q:X.N[i]? with
    | none=>rw[q] at e1';cases e1'
    | some n =>
     rw[q] at e1'
     have e1'':(if vars.contains n=true then mask n else n)=x:=Xx e1'
     have vis:(scope.names.lookup x).isSome=true:=by
      unfold Qg at e3;have e3':(YX scope cl C X.env).scope.names.lookup x=Wv .local\/(YX scope cl C X.env).scope.names.lookup x=Wv .cell\/(YX scope cl C X.env).scope.names.lookup x=Wv .free:=e3;rw[e] at e3';cases z:scope.names.lookup x with
      | none=>rw[z] at e3';simp at e3'
      | some _=>rfl
     by_cases hv:n∈vars
     . rw[if_pos (by simpa using hv)] at e1'';have:=BS (X:=X) hlc n hv;rw[e1''] at this;rw[this] at vis;cases vis
     . rw[if_neg (by simpa using hv)] at e1'';subst e1'';have nl:=OY (X:=X) hlc n (WL q) hv;cases z:scope.names.lookup n with
       | none=>rw[z] at vis;cases vis
       | some kd =>
        have hm:=jP (X:=X) hlc _ (lookup_mem z)
        have hkd:kd= .free:=by
         unfold Qg at e3;have e3':(YX scope cl C X.env).scope.names.lookup n=Wv .local\/(YX scope cl C X.env).scope.names.lookup n=Wv .cell\/(YX scope cl C X.env).scope.names.lookup n=Wv .free:=e3;rw[e,z] at e3';by_cases hf:kd= .free
         . exact hf
         . have hf':(kd == Y1)=false:=by simpa using hf
           simp only[YW,hf',acP,Zv,if_false,Zc] at e3';rcases e3' with y | y | y
           . rw[y] at z;exact absurd z nl.1
           . rw[y] at z;exact absurd z nl.2
           . exact y
        subst hkd
        have kk:=hm.2.1 rfl
        obtain⟨m,_,hl⟩:=I.loc
        obtain⟨u,r,look⟩:=hl i n v q e2 (.inr kk)
        obtain⟨c,hcl⟩:=hc2 n (.inl z)
        have hco:=(hc1 n c hcl).elim (·.2) (λw=>by rw[z] at w;cases w.1)
        have look': ∃ c,X.env.cells.lookup n=Wv c/\s.heap.IsCell c (Wv u):=by
         rcases look with⟨y,_⟩ | ⟨_,y⟩
         . rcases kk with w | w<;>(rw[w] at y;cases y)
         . exact y
        obtain⟨c',hc',⟨o,ho,hd⟩⟩:=look'
        have ec:=Xx (hco.symm.trans hc')
        subst ec
        refine⟨u,r,.inr ⟨?_,c,hcl,o,k c o ho,hd⟩⟩
        show(YX scope cl C X.env).scope.names.lookup n=Wv .cell\/(YX scope cl C X.env).scope.names.lookup n=Wv .free
        rw[e,z]
        simp only[YW]
        split
        . exact .inl rfl
        . exact .inr rfl
  . rw[Xe (adx.mp hi),Zl] at e2;split at e2<;>cases e2
 case cell =>
  rcases hc1 x c e with z | z
  . obtain⟨v,o,ho,hd⟩:=I.cell x c z.2;exact⟨v,o,k c o ho,hd⟩
  . exact⟨Wx,z.2.2⟩
 case pin =>
  intro p hp
  have hp':p∈X.pn++pins:=by simpa [L2.fK] using hp
  obtain⟨e,n,ne,nf,d⟩:=I.pin p hp'
  refine⟨k _ _ e,n,W7 (WQ (WN e) hC),λz=>?_,d⟩
  rcases WM.mp (I.nP p.1 z) with q | q
  . exact ne q
  . exact nf q
 case len =>
  show(σ ++WO vars.length Wx).length=(mP X.N vars).length
  unfold mP
  rw[WR,WR,Wy,acE,I.len]
end
def GK(n:Nat)(g:TG):= ∀ x σ H Q,g x σ H Q->g x σ H fun σ2 H2=>Q σ2 H2/\ ∀ j,j < n-> σ2[j]?= σ[j]?
def Tq(n:Nat)(g:Gm):= ∀ xs σ H Q,g xs σ H Q->g xs σ H fun σ2 H2=>Q σ2 H2/\ ∀ j,j < n-> σ2[j]?= σ[j]?
def uO(g:TG):= ∀ x σ H Q Q',(∀ σ2 H2,Q σ2 H2->Q' σ2 H2)->g x σ H Q->g x σ H Q'
theorem Iw(h:n<=i):GK n (gG i):=λx σ H Q q=>⟨q,λj hj=>XS (by omega)⟩
theorem y0:uO (gG i):=λx σ H Q Q' f q=>f _ _ q
theorem PB:Tq n A7:=λxs σ H Q q=>⟨q.1,q.2,λ_ _=>rfl⟩
theorem Ja(h:GK n g)(hm:uO g)(hs:Tq n gs):Tq n (nU g gs):=λxs σ H Q q=>by
 obtain⟨v,r,e,z⟩:=q;refine⟨v,r,e,hm _ _ _ _ _ (fun σ2 H2 y=>?_) (h _ _ _ _ z)⟩;have y':=hs _ _ _ _ y.1;have:(fun σ3 H3=>(Q σ3 H3/\ ∀ j,j < n-> σ3[j]?= σ2[j]?))=fun σ3 H3=>(Q σ3 H3/\ ∀ j,j < n-> σ3[j]?= σ[j]?):=by
  funext σ3 H3
  exact propext ⟨λw=>⟨w.1,λj hj=>(w.2 j hj).trans (y.2 j hj)⟩,λw=>⟨w.1,λj hj=>(w.2 j hj).trans (y.2 j hj).symm⟩⟩
 rw[this] at y';exact y'
theorem Pf{K}(hs:Tq n gs):GK n (xS K m gs):=λx σ H Q q=>by
 obtain⟨a,xs,e,h1,h2,h3⟩:=q;exact⟨a,xs,e,h1,h2,hs _ _ _ _ h3⟩
section
variable{X:Cx}{scope:aby}{vars:List Str}{elt tg iter:XH}{ifs:List XH}{pos:Pos}{wi:TI}{g:TG}{tt:TT}{te:TE}
theorem pV{pins:List (W2 × Obj)}{σ :St}{H2:Hp}{s2:WK}{cl:List (Str × W2)}{it:W2}{fp:List W2}{tn:Nat->X8->Prop}{J:It}{RR:WC->W2->Result->WK->Prop}{Q:VK}{E:WC->WK->Prop}
  (hc:X.calm=true) (hx: ∀ v s,¬ X.xe v s) (hkind:scope.kind= .function) (hlc:jg scope.names X.env.scope.names X.N vars=true)
  (hb: ∀ cl C s₀ H₀ ex pn,PG (fK X vars scope cl C s₀ H₀ ex pn) tg g/\PF (fK X vars scope cl C s₀ H₀ ex pn) ifs tt/\PE (fK X vars scope cl C s₀ H₀ ex pn) elt te) (hgk:GK X.N.length g)
  (hc1: ∀ x c,cl.lookup x=Wv c->X.env.cells.lookup x=Wv c) (hc2: ∀ x,scope.names.lookup x=Wv .free-> ∃ c,cl.lookup x=Wv c)
  (I2:Inv X pins σ H2 s2) (T:Turn X.prog X.w X.K tg J fp it tn) (st2:tn 0 s2.heap) (f2: ∀ b∈fp,iD X pins H2 b)
  {W:Nat->Nat->List V->Hp->Prop} {m0:Nat} (w0:W 0 m0 [] H2)
  (turn: ∀ i m ys H,W i m ys H->(J.stop i H/\ ∀ p,H p=Wx->Q (.ref p) (upd H p (.lst ys))) \/
   (J.go i H/\ys.length < WJ/\ ∀ x H',J.Kz i H x H'->g x (σ ++WO vars.length Wx) H' fun σ2 H2=>tt σ2 H2 λb H3 =>
    if b=true then te σ2 H3 λy H4=> ∃ m',m' < m/\W (i+1) m' (ys++[y]) H4 else ∃ m',m' < m/\W (i+1) m' ys H3))
  (hRR: ∀ D C s4 H4 ys m,Inv X pins σ (upd H4 D (.lst ys)) s4->s4.heap.Ns C m->H4 D=Wx->(upd H4 D (.lst ys)) C=Wx->C≠X.env.locals->X.s₀.heap.objs.size<=C->(∀ x c,X.env.cells.lookup x=Wv c->c≠C)->(∀ p∈X.pn++pins,p.1≠C) ->
   Q (.ref D) (upd H4 D (.lst ys))->RR (.ref D) C (.ok .next) s4) :
  W3 (W8 X.prog X.w) X.A (newList []) (λacc s₃ =>W3 (W8 X.prog X.w) X.A (acO scope X.env.globals cl [] X.env.qual Wx .none (Wv X.env)) (λcenv s₄ =>
   aaR (W8 X.prog X.w) X.A (.compStart (.ListComp elt [⟨tg,iter,ifs,0⟩] scope pos) 0 (.ref it) acc { cenv with scope:=relabel scope X.env}) (RR acc cenv.locals) s₄) E s₃) E s2:=by
 refine Yi (sy ?_);dsimp only;generalize hH2:s2.heap.push { cls:= .type "list",dict:=Wx,data:= .seq ([]).toArray}=P2;have hC:P2.objs.size=s2.heap.objs.size+1:=by rw[<- hH2,XT]
 have hDC:s2.heap.objs.size≠P2.objs.size:=by rw[hC];exact W7 (ZS _)
 have hCle:s2.heap.objs.size<=P2.objs.size:=by rw[hC];exact abB _
 have hz:(P2.push { cls:= .type "dict",data:= .dict #[]}).objs.size=P2.objs.size+1:=XT ..;have cn:=yV scope.names (P2.push { cls:= .type "dict",data:= .dict #[]}) cl;rw[hz] at cn;have ci:=xM scope.names (P2.objs.size+1) cl (λx y c e1 _ hl=>absurd (WQ (I2.cell x c (hc1 x c e1)).choose_spec.lt hl) (Xt _)) (λx c e=>WQ (I2.cell x c (hc1 x c e)).choose_spec.lt (Zd hCle));have cs: ∀ x,scope.names.lookup x=Wv .free\/scope.names.lookup x=Wv .cell-> ∃ c,(ZI (P2.objs.size+1) scope.names cl).lookup x=Wv c:=λx h=>Z9.mp (aax _ _ _ (h.elim (λz=> .inr (Z9.mpr (hc2 x z))) .inl));have hns₁ :(ab4 (P2.push { cls:= .type "dict",data:= .dict #[]}) scope.names).Ns P2.objs.size (λ_=>Wx):=(Heap.Ns.new P2 (.type "dict")).keeps (acy _ _);have kp: ∀ b o,P2.get? b=Wv o->(ab4 (P2.push { cls:= .type "dict",data:= .dict #[]}) scope.names).get? b=Wv o:=λb o e=>acy _ _ b o (WB _ e);generalize hh₁ :ab4 (P2.push { cls:= .type "dict",data:= .dict #[]}) scope.names=h₁ at *;generalize hcl':ZI (P2.objs.size+1) scope.names cl=cl' at *;have c1: ∀ x c,cl'.lookup x=Wv c->(scope.names.lookup x≠Wv .cell/\X.env.cells.lookup x=Wv c)\/(scope.names.lookup x=Wv .cell/\P2.objs.size+1<=c/\h₁.IsCell c Wx):=λx c e=>by
  rcases cn x c e with⟨n,q⟩ | ⟨m,q⟩
  . exact .inl ⟨λz=>n (lookup_mem z),hc1 x c q⟩
  . exact .inr ⟨(jP (X:=X) hlc _ m).1 rfl,q⟩
 have old:=λb o e=>kp b o (hH2 ▸ WB _ e);have hacc:=kp _ _ (hH2 ▸ WS _ rfl);have c1': ∀ x c,cl'.lookup x=Wv c->(scope.names.lookup x≠Wv .cell/\X.env.cells.lookup x=Wv c)\/(scope.names.lookup x=Wv .cell/\s2.heap.objs.size<=c/\h₁.IsCell c Wx):=λx c e=>(c1 x c e).imp id λz=>⟨z.1,Xb (Zd hCle) z.2.1,z.2.2⟩
 generalize hDe:s2.heap.objs.size=D at *;generalize hCe:P2.objs.size=C at *;have fo: ∀ b∈fp,∃ o,s2.heap.get? b=Wv o:=λb hb=>by obtain⟨o,e,_⟩:=T.obj _ _ st2 b hb;exact⟨o,e⟩
 have fpD: ∀ b∈fp,b < D:=λb hb=>by obtain⟨o,e⟩:=fo b hb;rw[<- hDe];exact WN e
 have pnlt: ∀ p∈X.pn++pins,p.1 < D:=λp hp=>by rw[<- hDe];exact WN (I2.pin p hp).1
 have cllt: ∀ x c,X.env.cells.lookup x=Wv c->c < D:=λx c e=>by obtain⟨v,q⟩:=I2.cell x c e;rw[<- hDe];exact q.lt
 have hLD:X.env.locals < D:=by rw[<- hDe];exact I2.lt
 have hD0:X.s₀.heap.objs.size<=D:=by rw[<- hDe];exact I2.sz
 have IY0:Inv (fK X vars scope cl' C s2 H2 fp (X.pn++pins)) [] (σ ++WO vars.length Wx) H2 { s2 with heap:=h₁,toks:=s2.toks} :=
  I2.fK hkind hlc (by rw[hDe];exact c1') cs (by rw[hDe];exact ci) f2 fo (by rw[hDe];exact hCle) hns₁ old
 have st1:=T.keep _ _ _ st2 λb _ o e=>old b o e;obtain⟨hg,hf,he⟩:=hb cl' C s2 H2 fp (X.pn++pins);generalize hY:fK X vars scope cl' C s2 H2 fp (X.pn++pins)=Y at *;have Yprog:Y.prog=X.prog:=by rw[<- hY];rfl
 have Yw:Y.w=X.w:=by rw[<- hY];rfl
 have YK:Y.K=X.K:=by rw[<- hY];rfl
 have YA:Y.A=X.A:=by rw[<- hY];rfl
 have Ycalm:Y.calm=true:=by rw[<- hY];exact hc
 have Yenv:Y.env=YX scope cl' C X.env:=by rw[<- hY];rfl
 have Yloc:Y.env.locals=C:=by rw[Yenv];rfl
 have Yex:Y.ex=fp:=by rw[<- hY];rfl
 have Yfs:Y.fs=CQ X.stack:=by rw[<- hY];rfl
 have Ys0:Y.s₀ =s2:=by rw[<- hY];rfl
 have YH0:Y.H₀ =H2:=by rw[<- hY];rfl
 have Ypn:Y.pn=X.pn++pins:=by rw[<- hY];rfl
 have YN:Y.N=mP X.N vars:=by rw[<- hY];rfl
 have Yxe: ∀ v s,¬ Y.xe v s:=by rw[<- hY];exact hx
 have noE: ∀{E':WC->WK->Prop}{v:WC}{s:WK},Y.xe v s->E' v s:=λh=>absurd h (Yxe _ _);have Ycell: ∀ x c,Y.env.cells.lookup x=Wv c->c≠D:=λx c e=>by
  rw[Yenv] at e;exact(c1 x c e).elim (λz=>W7 (cllt x c z.2)) (λz=>Yq (WQ (adL hCle) z.2.1))
 have fpY: ∀{H':Hp}{pl:List (W2 × Obj)},(∀ b∈fp,H' b=Wx)->(∀ p∈pl,D<=p.1)-> ∀ b∈fp,iD Y pl H' b:=λ{H' pl} hn hp b hb=>by
  refine⟨hn b hb,?_,?_,.inl (by rw[Yex];exact hb),?_,?_⟩
  . rw[Yloc];exact W7 (WQ (fpD b hb) hCle)
  . rw[Yfs];intro z;rcases WM.mp (I2.nP b z) with q | q
    . exact(f2 b hb).2.1 q
    . exact(f2 b hb).2.2.1 q
  . intro x c e z;rw[Yenv] at e;exact(c1 x c e).elim (λw=>(f2 b hb).2.2.2.2.1 x c w.2 z) (λw=>absurd (WQ (fpD b hb) (Xb (Zd hCle) (z ▸ w.2.1))) (Xt _))
  . intro p hp';rcases XJ.mp hp' with q | q
    . rw[Ypn] at q;exact(f2 b hb).2.2.2.2.2 p q
    . intro z;have:=hp p q;rw[z] at this;exact absurd (WQ (fpD b hb) this) (Xt _)
 have Dfs:D ∉ Y.fs:=by
  rw[Yfs];intro z;rcases WM.mp (I2.nP D z) with q | q
  . exact absurd hLD (by rw[q];exact Xt _)
  . exact I2.Q8 (by rw[hDe];exact WG _) q
 have loop:aaR (W8 X.prog X.w) X.A (.compLoop (.ListComp elt [⟨tg,iter,ifs,0⟩] scope pos) 0 (.ref it) (.ref D) (YX scope cl' C X.env)) (RR (.ref D) C) { s2 with heap:=h₁,toks:=s2.toks}:=by
  refine pJ (λn s'=> ∃ i ys H' ak k,Inv Y [(D,{ cls:= .type "list",data:= .seq ak k})] (σ ++WO vars.length Wx) H' s'/\tn i s'.heap/\(∀ b∈fp,H' b=Wx)/\W i n ys H'/\Vals ys ak.toList/\ys.length<=WJ) ?_ m0
   ⟨0,[],H2,_,0,IY0.jT (λp hp=>?_),st1,λb hb=>(f2 b hb).1,w0,.nil,Xv _⟩
  . rintro n s3 ⟨i,ys,H3,ak,k,I3,mO,fr3,w3,hv,hlen⟩;rcases turn i n ys H3 w3 with⟨stop,q⟩ | ⟨go,hlt,step⟩
    . have d:=T.done Y Yprog Yw YK Ycalm i _ s3 _ H3 (notedBy (W8 X.prog X.w) X.A (YX scope cl' C X.env) λe s'=>RR (.ref D) C (.error e) s') I3 (fpY fr3 (by intro p hp;rw[Xq.mp hp];exact WG _)) mO stop;rw[YA] at d;refine XE d (λr s4 hr=>?_) λ_ _ z=>z;obtain⟨rfl,I4⟩:=hr;obtain⟨eD,nD,_,_,_⟩:=I4.pin (D,_) (Xd _ WW);dsimp only at eD nD;obtain⟨m,hnC,_⟩:=I4.loc;rw[Yloc] at hnC;have hb4:=I4.base;rw[Yfs,Yex,YH0,Ys0] at hb4;have hok4:=I4.bA;rw[Yprog,Yw] at hok4;have hCf:=I4.free;rw[Yloc] at hCf;have neD: ∀ b o,s2.heap.get? b=Wv o->b≠D:=λb o e=>by rw[<- hDe];exact W7 (WN e)
      have IX:Inv X pins σ (upd H3 D (.lst ys)) s4:=by
       refine I2.R6 (ch:=fp) (I4.os.trans (by rw[Ys0])) ⟨hb4.keep,hb4.slot,λb o e n hx'=>?_,hb4.there,λb xs e=>?_,λb o u e=>?_,λb ps e=>?_⟩ (λb u e=>?_) I4.bare (λb hb'=>?_)
       . rw[ax (neD b o e)];exact hb4.free b o e n hx'
       . rw[ax (av (hb4.mV b xs e) nD)];exact hb4.mV b xs e
       . rw[ax (av (hb4.l9 b o u e) nD)];exact hb4.l9 b o u e
       . obtain⟨more,e'⟩:=hb4.oG b ps e;exact⟨more,by rw[ax (av e' nD)];exact e'⟩
       . by_cases hbD:b=D
         . subst hbD;rw[aX] at e;cases e;exact⟨hlen,ak.toList,k,hv,by simpa using eD⟩
         . rw[ax hbD] at e;exact(hok4 b u e).rV (λc v _ z=>z) (λc z=>by rw[ax (av z nD)];exact z) λc xs z=>by rw[ax (av z nD)];exact z
       . have f:=f2 b hb';exact⟨f.2.2.2.1,f.2.1,f.2.2.2.2.1,f.2.2.2.2.2⟩
      refine hRR D C s4 H3 ys m IX hnC nD (by rw[ax (Za hDC)];exact hCf) (Yq (WQ hLD hCle)) (Xb hD0 hCle) (λx c e=>W7 (WQ (cllt x c e) hCle)) (λp hp=>W7 (WQ (pnlt p hp) hCle)) (q D nD)
    . have d:=T.item Y Yprog Yw YK Ycalm i _ s3 _ H3 (notedBy (W8 X.prog X.w) X.A (YX scope cl' C X.env) λe s'=>RR (.ref D) C (.error e) s') I3 (fpY fr3 (by intro p hp;rw[Xq.mp hp];exact WG _)) mO go;rw[YA] at d;refine XE d (λr s4 hr=>?_) λ_ _ z=>z;obtain⟨u,rfl,h4⟩:=hr;refine XE h4 (λ_ s5 h5=>?_) λ_ _ z=>z;obtain⟨x,H5,I5,r5,y5,st5,fr5⟩:=h5;have I5':=I5.pinned (fpY fr5 (by intro p hp;rw[Xq.mp hp];exact WG _)) (T.obj _ _ st5);have a1:=hg _ s5 _ H5 x u _ I5' r5 (hgk _ _ _ _ (step x H5 y5));rw[Yprog,Yw,YA,Yenv] at a1;refine XE a1 (λ_ s6 h6=>?_) λ_ _ z=>noE z;obtain⟨σ6,H6,I6,q6,k6⟩:=h6;have a2:=hf _ s6 σ6 H6 _ I6 q6;rw[Yprog,Yw,YA,Yenv] at a2;have back: ∀{pl:List (W2 × Obj)}{H':Hp}{s':WK},Inv Y pl σ6 H' s'->Inv Y pl (σ ++WO vars.length Wx) H' s':=λ{pl H' s'} I'=>by
       refine I'.weak ?_ λj v e=>?_
       . rw[I'.len,<- I3.len]
       . by_cases hj:j < σ.length
         . rw[k6 j (by rw[<- I2.len];exact hj)];exact e
         . rw[Xe (adx.mp hj),Zl] at e;split at e<;>cases e
      refine XE a2 (λok s7 h7=>?_) λ_ _ z=>noE z;obtain⟨H7,I7,q7⟩:=h7;cases ok with
      | false =>
       rw[if_neg W5] at q7
       unfold yd
       rw[if_neg (show ¬ false=true from W5)]
       obtain⟨m',hm',w7⟩:=q7
       refine⟨m',hm',i+1,ys,H7,ak,k,(back I7).jT (λp hp=>I7.pin p (Xd _ (ZN _ hp))),T.keep _ _ _ st5 λb hb' o e=>(I7.pin (b,o) (Xd _ (Xd _ (eN hb' e)))).1,λb hb'=>?_,w7,hv,hlen⟩
       obtain⟨o,e,_⟩:=T.obj _ _ st5 b hb'
       exact(I7.pin (b,o) (Xd _ (Xd _ (eN hb' e)))).2.1
      | true =>
       rw[if_pos rfl] at q7
       unfold yd
       rw[if_pos (show true=true from rfl)]
       have a3:=he _ s7 σ6 H7 _ I7 q7
       rw[Yprog,Yw,YA,Yenv] at a3
       refine XE a3 (λy s8 h8=>?_) λ_ _ z=>noE z
       obtain⟨v,H8,I8,r8,m',hm',w8⟩:=h8
       obtain⟨eD,nD,neL,nfD,dD⟩:=I8.pin (D,_) (Xd _ (ZN _ WW))
       dsimp only at eD nD neL nfD dD
       refine append_at (hsz:=by have:=hv.length;simp at this;omega) eD λh9 hs9 e9=>?_
       have st8:=T.keep _ _ _ st5 λb hb' o e=>(I8.pin (b,o) (Xd _ (Xd _ (eN hb' e)))).1
       have fr8: ∀ b∈fp,H8 b=Wx:=λb hb'=>by
        obtain⟨o,e,_⟩:=T.obj _ _ st5 b hb';exact(I8.pin (b,o) (Xd _ (Xd _ (eN hb' e)))).2.1
       have I8':Inv Y [] (σ ++WO vars.length Wx) H8 s8:=(back I8).jT λp hp=>by cases hp
       have I9:=I8'.turned (it:=D) (h':=h9) (t':=s8.toks) (λb o hb' e=>hs9.extBut b o hb' e) nD neL (.inr (by rw[Ys0,hDe];exact WG _)) (λx c e=>Ycell x c e) (λp hp=>by
        rw[Xr,Ypn] at hp;exact W7 (pnlt p hp))
       refine⟨m',hm',i+1,ys++[v],H8,ak.push y,k+1,I9.jT (λp hp=>?_),T.keep _ _ _ st8 λb hb' o e=>hs9.extBut b o (W7 (fpD b hb')) e,fr8,w8,?_,?_⟩
       . obtain rfl:=Xq.mp hp;exact⟨e9,nD,neL,nfD,λv=>by simp⟩
       . rw[adM];exact Vals.append hv (.cons r8 .nil)
       . rw[WR,aaH];exact hlt
  . obtain rfl:=Xq.mp hp;refine⟨hacc,I2.bA.fresh (by rw[hDe];exact WG _),?_,Dfs,λv=>by simp⟩;rw[Yloc];exact hDC
 exact codeAny_compStart_list loop (T.self _ 0 _ _ _ st1 loop)
end
section
variable{X:Cx}{scope:aby}{vars:List Str}{elt tg iter:XH}{ifs:List XH}{pos spos py:Pos}{wi:TI}{g:TG}{tt:TT}{te:TE}{i:Nat}{y:Str}
theorem E7 vars (hc:X.calm=true) (hx: ∀ v s,¬ X.xe v s) (hkind:scope.kind= .function) (hlc:jg scope.names X.env.scope.names X.N vars=true) (hi:PI X tg iter wi)
  (hb: ∀ cl C s₀ H₀ ex pn,PG (fK X vars scope cl C s₀ H₀ ex pn) tg g/\PF (fK X vars scope cl C s₀ H₀ ex pn) ifs tt/\PE (fK X vars scope cl C s₀ H₀ ex pn) elt te) (hgk:GK X.N.length g)
  (hs: ∀ x,XM iter X.env x=pure x:=by intro _;rfl):PE X (.ListComp elt [⟨tg,iter,ifs,0⟩] scope pos) (Uv vars.length wi g tt te):=by
 intro pins s σ H Q I h;obtain⟨cl,hcl,hc1,hc2⟩:=pd (env:=X.env) (scope:=scope) λp hp hf=>I.ok.has p.1 ((jP (X:=X) hlc p hp).2.1 hf);refine abM (use:=Wx) rfl hs hcl hkind (λp hp=>(jP (X:=X) hlc p hp).2.2) ?_;refine XE (hi pins s σ H _ I h) (λv s1 h1=>XE h1 (λitv s2 h2=>?_) λ_ _ z=>z) λ_ _ z=>z;obtain⟨it,fp,tn,J,H2,rfl,I2,T,st2,f2,W,⟨m0,w0⟩,turn⟩:=h2;refine pV (Q:=Q) (RR:=λacc C=>compPost (W8 X.prog X.w) X.A X.xe Wx (EP X pins σ Q) acc C) hc hx hkind hlc hb hgk hc1 hc2 I2 T st2 f2 w0 turn ?_;intro D C s4 H4 ys m I4 hn nD nC neL hsz hcell hpin q;refine⟨m,hn,λh' hs'=>⟨.ref D,_,I4.turned (it:=C) (t':=s4.toks) (λb o hb e=>hs'.extBut b o hb e) nC neL (.inr hsz) hcell hpin,rfl,q⟩⟩
def EL(k i:Nat)(wi:TI)(g:TG)(tt:TT)(te:TE):TS:=λD σ H=>Uv k wi g tt te σ H λv H1=>D.nx (σ.set i (Wv v)) H1
theorem EJ vars i (hc:X.calm=true) (hx: ∀ v s,¬ X.xe v s) (hkind:scope.kind= .function) (hlc:jg scope.names X.env.scope.names X.N vars=true) (hN:X.N.Nodup) (hiy:X.N[i]?=Wv y) (hy:Loc X.env.scope y)
  (hi:PI X tg iter wi)
  (hb: ∀ cl C s₀ H₀ ex pn,PG (fK X vars scope cl C s₀ H₀ ex pn) tg g/\PF (fK X vars scope cl C s₀ H₀ ex pn) ifs tt/\PE (fK X vars scope cl C s₀ H₀ ex pn) elt te) (hgk:GK X.N.length g)
  (hsw:ZH (.ListComp elt [⟨tg,iter,ifs,0⟩] scope pos) (Wv (.Name y py)) spos.line X.env=pure true:=by rfl)
  (hs: ∀ x,XM iter X.env x=pure x:=by intro _;rfl)
  (hf:X.fn y=true\/X.env.scope.names.lookup y=Wv .local:=by first | exact .inl rfl | exact .inr rfl | assumption) :
  PS X (.Assign [.Name y py] (.ListComp elt [⟨tg,iter,ifs,0⟩] scope pos) spos) (EL vars.length i wi g tt te):=by
 intro pins s σ H Dn I h;obtain⟨cl,hcl,hc1,hc2⟩:=pd (env:=X.env) (scope:=scope) λp hp hf=>I.ok.has p.1 ((jP (X:=X) hlc p hp).2.1 hf);rw[exec_Assign_Name_used _ _ _ _ hsw];refine Ww (adi (Ww ?_));refine Ww (XE (abM (use:=Wv (aa1 (.Name y py) X.env)) (Q:=λ_ s'=>SP X pins Dn .next s') rfl hs hcl hkind (λp hp=>(jP (X:=X) hlc p hp).2.2) ?_) (λ_ s' hq=>WI (WI hq)) λ_ _ e=>e);refine XE (hi pins s σ H _ I h) (λv s1 h1=>XE h1 (λitv s2 h2=>?_) λ_ _ z=>z) λ_ _ z=>z;obtain⟨it,fp,tn,J,H2,rfl,I2,T,st2,f2,W,⟨m0,w0⟩,turn⟩:=h2;refine pV (Q:=λv H1=>Dn.nx (σ.set i (Wv v)) H1) (RR:=λacc C=>compPost (W8 X.prog X.w) X.A X.xe (Wv (aa1 (.Name y py) X.env)) (λ_ s'=>SP X pins Dn .next s') acc C) hc hx hkind hlc hb hgk hc1 hc2 I2 T st2 f2 w0 turn ?_;intro D C s4 H4 ys m I4 hn nD nC neL hsz hcell hpin q;refine wpAny_assign_Name (sQ I4 hN hiy hy (v:= .ref D) rfl (λs5 I5 z9=>?_) hf);obtain⟨a,hsb,ha⟩:=z9;have hCa:C≠a:=by
  rcases ha with z | z
  . rw[z];exact neL
  . exact Za (hcell _ _ z)
 refine⟨m,hn.sameBut hsb hCa,λh' hs'=>?_⟩;exact⟨_,_,I5.turned (it:=C) (t':=s5.toks) (λb o hb e=>hs'.extBut b o hb e) nC neL (.inr hsz) hcell hpin,q⟩
end
theorem MN{K:Wz}{a:W2}{xs:List V}{k:Nat}{g:TG}{tt:TT}{te:TE}{σ :St}{H:Hp}{Q:VK}(Pv:Nat->List V->Hp->Prop)(h0:Pv 0 [] H)(hl: ∀ i ys H,i<=xs.length->Pv i ys H->fw K H a xs/\ys.length<=i)(hz:xs.length<=WJ)
  (hs: ∀ i x ys H,xs[i]?=Wv x->Pv i ys H->g x (σ ++WO k Wx) H fun σ2 H2=>tt σ2 H2 λb H3=>if b=true then te σ2 H3 λy H4=>Pv (i+1) (ys++[y]) H4 else Pv (i+1) ys H3)
  (hd: ∀ ys H,Pv xs.length ys H-> ∀ p,H p=Wx->Q (.ref p) (upd H p (.lst ys)))
  (gm:uO g) (tm: ∀ σ H Q Q',(∀ b H1,Q b H1->Q' b H1)->tt σ H Q->tt σ H Q') (em: ∀ σ H Q Q',(∀ b H1,Q b H1->Q' b H1)->te σ H Q->te σ H Q') :
  ∃ W:Nat->Nat->List V->Hp->Prop,(∃ m,W 0 m [] H)/\ ∀ i m ys H,W i m ys H ->
 ((Dy K a).stop i H/\ ∀ p,H p=Wx->Q (.ref p) (upd H p (.lst ys))) \/
 ((Dy K a).go i H/\ys.length < WJ/\ ∀ x H',(Dy K a).Kz i H x H'->g x (σ ++WO k Wx) H' fun σ2 H2=>tt σ2 H2 λb H3 =>
  if b=true then te σ2 H3 λy H4=> ∃ m',m' < m/\W (i+1) m' (ys++[y]) H4 else ∃ m',m' < m/\W (i+1) m' ys H3):=by
 refine⟨λi m ys H=>m=xs.length - i/\i<=xs.length/\Pv i ys H,⟨xs.length,by simp,Xv _,h0⟩,?_⟩
 rintro i m ys H ⟨rfl,hi,p⟩
 obtain⟨q,hy⟩:=hl i ys H hi p
 by_cases hlt:i < xs.length
 . refine .inr ⟨⟨xs,xs[i],q,by simp[hlt]⟩,by omega,λx H' y=>?_⟩;obtain⟨e,y⟩:=y;subst e;refine gm _ _ _ _ _ (fun σ2 H2 z=>tm _ _ _ _ (λb H3 z=>?_) z) (hs i x ys _ (y xs q) p);cases b with
   | true =>
    exact em _ _ _ _ (λv H4 w=>⟨xs.length - (i+1),by omega,rfl,hlt,w⟩) z
   | false =>
    exact⟨xs.length - (i+1),by omega,rfl,hlt,z⟩
 . have e:i=xs.length:=by omega
   subst e;exact .inl ⟨⟨xs,q,WG _⟩,hd ys H p⟩
theorem xD:aS X (.builtin "isinstance") (λxs H Q=> ∃ x T t b,xs=[x,.ty T]/\j8 X.K H x t/\abi X.K t (.type T)=Wv b/\Q (.bl b) H):=by
 intro pins s σ H xs us Q I r h;obtain⟨x,T,t,b,rfl,ty,k,q⟩:=h;obtain⟨u,c,rfl,ru,rc⟩:=vals2 r;cases(show c=YT T from rc);exact Bh I ru ty k λtk=>⟨.bl b,H,I.tok tk,rfl,q⟩
theorem aW.get(x:aW P w H h a o): ∃ ob,h.get? a=Wv ob:=by
 induction o with
 | lst xs=>obtain⟨_,ak,n,_,e⟩:=x;exact⟨_,e⟩
 | tup xs=>obtain⟨_,ak,_,ob,e,_⟩:=x;exact⟨_,e⟩
 | dK kvs=>obtain⟨_,_,vs,_,ob,es,ep,e,_⟩:=x;exact⟨_,e⟩
 | dT kvs=>obtain⟨_,_,xs,_,ob,es,ep,e,_⟩:=x;exact⟨_,e⟩
 | set S n=>obtain⟨ob,es,ep,t,e,_⟩:=x;exact⟨_,e⟩
 | ins C dx fs=>obtain⟨_,_,_,e,_⟩:=x;exact⟨_,e⟩
 | own y=>exact x
 | xd fs=>obtain⟨mA,⟨od,es,ep,e,_⟩,_⟩:=x;exact⟨_,e⟩
 | vF lo hi=>obtain⟨t,u,v,e⟩:=x;exact⟨_,e⟩
 | kU ob u ih=>obtain⟨e,_⟩:=x;exact⟨_,e⟩
 | tbl ps=>exact⟨_,x⟩
 | met f y=>exact⟨_,x⟩
 | ext φ =>obtain⟨_,e,_⟩:=x;exact e
theorem Inv.mX{σ :St}(I:Inv X pins σ H s)(k: ∀ b u,s.heap.get? b=Wv u->h'.get? b=Wv u)(hp:s.heap.get? a=Wx)(new:aW X.prog X.w (upd H a o) h' a o) :
  H a=Wx/\Inv X pins σ (upd H a o) { s with heap:=h',toks:=t'}:=by
 have hn:H a=Wx:=by
  cases q:H a with
  | none=>rfl
  | some u =>
   obtain⟨ob,e⟩:=(I.bA a u q).get
   rw[hp] at e;cases e
 have ne: ∀ b u,s.heap.get? b=Wv u->b≠a:=λb u e z=>by rw[z,hp] at e;cases e
 refine⟨hn,I.un ⟨λb u q _ _ _=>k b u q,λb u q _ _ _=>⟨u.slots,k b u q⟩,λb u q n _=>?_,λb u q _=>⟨u,k b u q⟩,λb xs q=>?_,λb u xs q=>?_,λb ps q=>?_⟩ λb u e=>?_⟩
 . rw[ax (ne b u q)];exact n
 . rw[ax (av q hn)];exact q
 . rw[ax (av q hn)];exact q
 . exact⟨#[],by rw[ax (av q hn),q];simp⟩
 . by_cases hb:b=a
   . subst hb;rw[aX] at e;cases e;exact new
   . rw[ax hb] at e;exact(I.bA b u e).rV (λc v _ q=>k c v q) (λc q=>by rw[ax (av q hn)];exact q) λc xs q=>by rw[ax (av q hn)];exact q
theorem nv{h h':X8}(k: ∀ b o,h.get? b=Wv o->h'.get? b=Wv o):h.get? h'.objs.size=Wx:=by
 cases q:h.get? h'.objs.size with
 | none=>rfl
 | some o=>exact absurd (WN (k _ _ q)) (Xt _)
section
variable{prog:Xy}{w:X0}{A:Yk}{E:WC->WK->Prop}{s:WK}
theorem l6{a:W2}{vs:List WC}{ss:List Str}{n:Nat}{Q:WC->WK->Prop}(ho:s.heap.get? a=Wv (Zw "list" vs.toArray n))(hS:aba vs ss)(h64:vs.length < 64)
  (h: ∀(out:Array WC)(ss':List Str),aba out.toList ss'->ss'.Perm ss->abD ss'=true->Q .none { s with heap:=acp s.heap a vs out}) :
  W3 (W8 prog w) A (call (.builtin "list.sort") [.ref a]) Q E s:=by
 refine Yd acJ ⟨_,ho,rfl⟩ acz (list_sort_treeK strKind_oneLt ho hS.keysOf (λv₁ v₂ rest e=>keyKind_strs (by rw[<- e];exact hS)) h64 λst' hp hs=>⟨_,rfl,?_⟩) (acK _);have z:=sorted_out_str hS hp hs;exact h _ z.choose z.choose_spec.1 z.choose_spec.2.1 z.choose_spec.2.2
theorem yk{T:String}{r d:W2}{n:Nat}{P:Nat->WC->Prop}{OK:X8->Prop}{Q:WC->WK->Prop}(K:PySem.W.KdlSrc prog w T r d n P OK)(hh:A.handled=Wx)(bA:OK s.heap)(hn:n<=WJ)
  (h: ∀(D:W2)(h':X8)(tk:Nat)(vs:List WC),(∀ b o,s.heap.get? b=Wv o->h'.get? b=Wv o)->h'.get? D=Wv (Zw "list" vs.toArray 0)->s.heap.get? D=Wx->vs.length=n->(∀(j:Nat)(v:WC),vs[j]?=Wv v->P j v) ->
   W3 (W8 prog w) A.in1 (call (.builtin "list.sort") [.ref D]) (λ_ z=>Q (.ref D) z) E { s with heap:=h',toks:=tk}):W3 (W8 prog w) A (call (.builtin "sorted") [.ref r]) Q E s:=by
 refine ZX aeh adN adO (adP (.ref r)) ?_;refine Ww (m:=checkCount "sorted" 1 1 [W6 r].length) (WI (Ww (PySem.W.kdu_collect (A:=A.in1) K hh bA hn λh' tk acc hk hacc=>?_)));have many:=YF.trans hacc.1;refine Ww (aaS (Ww (XQ (XE (h h'.objs.size (h'.push { cls:= .type "list",data:= .seq acc.toList.toArray}) tk acc.toList (λb o e=>WB _ (hk b o e)) (WS _ rfl) (nv hk) many
  λj v e=>hacc.2 j v (ZK ▸ e)) (λ_ z q=>WI (aeG _ (ab5 rfl q))) λ_ _ e=>e))) (many ▸ hn))
end
theorem gI: ∀{us},Vals (ss.map V.str) us->aba us ss:=by
 induction ss with
 | nil=>intro us h;cases h;exact .nil
 | cons x r ih =>
  intro us h
  cases h with
  | cons hx ht =>
   obtain⟨t,rfl⟩:=hx
   exact .cons x t (ih ht)
theorem jY: ∀{us ss},aba us ss->Vals (ss.map V.str) us
 | _,_,.nil=> .nil
 | _,_,.cons x t h=> .cons ⟨t,rfl⟩ (jY h)
theorem zW{P:Nat->WC->Prop}: ∀{ss:List Str}{vs:List WC},vs.length=ss.length->(∀(j:Nat)(v:WC)(x:Str),vs[j]?=Wv v->ss[j]?=Wv x-> ∃ t,v=aaK x t)->aba vs ss
 | [],[],_,_=> .nil
 | x::r,v::vs,hl,h=>by
  obtain⟨t,rfl⟩:=h 0 v x rfl rfl;exact .cons x t (zW (P:=P) (by simpa using hl) λj v y e1 e2=>h (j+1) v y (by simpa using e1) (by simpa using e2))
section
variable{X:Cx}
theorem nG:aS X (.builtin "sorted") (λxs H Q=> ∃ p ss,xs=[.ref p]/\hW X.K H p (ss.map V.str)/\ss.length < 64/\ ∀ l ss',H l=Wx->ss'.Perm ss->abD ss'=true->Q (.ref l) (upd H l (.lst (ss'.map V.str)))):=by
 intro pins s σ H xs us Q I r h;obtain⟨p,ss,rfl,hS,h64,q⟩:=h;obtain⟨u,rfl,ru⟩:=vals1 r;cases(show u=W6 p from ru);obtain⟨ak,hv,hl,hz⟩:=I.list hS;have sa:=gI hv;refine sorted_strs hl.isList sa (by rw[sa.length];exact h64) λout ss' a1 a2 a3=>?_;obtain⟨e,he⟩:=adQ s.heap ak out;have hlen:(ss'.map V.str).length<=WJ:=by rw[Wy,a2.length_eq];exact YY (WQ h64 (by decide))
 obtain⟨hn,I'⟩:=I.mX (a:=s.heap.objs.size+1) (o:= .lst (ss'.map V.str)) (t':=s.toks) (λb o e=>adk e) (YS (abB _)) ⟨hlen,out.toList,e,jY a1,by simpa [Zw] using he⟩;exact⟨.ref _,_,I',rfl,q _ ss' hn a2 a3⟩
theorem mY(hc:X.calm=true):aS X (.builtin "sorted") (λxs H Q=> ∃ d kvs ss,xs=[.ref d]/\H d=Wv (.dK kvs)/\kvs.map (·.1)=ss.map YQ/\ss.length < 64/\ ∀ l ss',H l=Wx->ss'.Perm ss->abD ss'=true->Q (.ref l) (upd H l (.lst (ss'.map V.str)))):=by
 intro pins s σ H xs us Q I r h;obtain⟨d,kvs,ss,rfl,hd,hk,h64,q⟩:=h;obtain⟨u,rfl,ru⟩:=vals1 r;cases(show u=W6 d from ru);obtain⟨z,lo,vs,rel,dd⟩:=wa I.bA hd;obtain⟨ep,da⟩:=dd.dictAt;have hlen:vs.length=ss.length:=by
  have e1:=rel.length;have e2:(kvs.map (·.1)).length=(ss.map (YQ (α :=Int))).length:=by rw[hk]
  rw[Wy,Wy] at e2;omega
 refine yk (PySem.W.kdl_dict (knd:=aI X.prog X.w) (kvs:=vs) (ep:=ep) lo) (I.ok.hd hc) da (by rw[hlen];exact YY (WQ h64 (by decide))) λD h' tk ws keep hD hDn hl hP=>?_;have sa:aba ws ss:=by
  refine zW (P:=λ_ _=>True) (by rw[hl,hlen]) λj v x e1 e2=>?_;obtain⟨k,y,e3,hk'⟩:=hP j v e1;have e4:(kvs.map (·.1))[j]?=Wv k:=by
   have e5:=rel.keys;rw[e5,WT,e3];rfl
  rw[hk,WT,e2] at e4;have e6:=Xx e4;subst e6;rcases bI (show pZ (YQ x) v=true from hk') with⟨i,t,z,_⟩ | ⟨x',t,z,e⟩
  . cases z
  . cases z;exact⟨t,e⟩
 refine l6 (n:=0) hD sa (by rw[hl,hlen];exact h64) λout ss' a1 a2 a3=>?_;obtain⟨e,he⟩:=sortedHeap_at (out:=out) hD;have hle:(ss'.map V.str).length<=WJ:=by rw[Wy,a2.length_eq];exact YY (WQ h64 (by decide))
 have keep': ∀ b o,s.heap.get? b=Wv o->(acp h' D ws out).get? b=Wv o:=λb o e=>by
  rw[sortedHeap_old (λz=>by rw[z,hDn] at e;cases e) (WN (keep b o e))];exact keep b o e
 obtain⟨hn,I'⟩:=I.mX (a:=D) (o:= .lst (ss'.map V.str)) (t':=tk) keep' hDn ⟨hle,out.toList,e,jY a1,by simpa [Zw] using he⟩;exact⟨.ref _,_,I',rfl,q _ ss' hn a2 a3⟩
end
section
variable{prog:Xy}{w:X0}{A:Yk}{E:WC->WK->Prop}{s:WK}
theorem rJ:ach (.type "tuple") "keys" =pure Wx:=am_miss_of_fast (by decide +kernel)
set_option maxHeartbeats 4500000 in
set_option maxRecDepth 9000 in
theorem rO{a:W2}{o:Obj}{xs:Array WC}{k:Nat}{Q:Option WC->WK->Prop}
  (hx:s.heap.get? a=Wv o) (hc:o.cls= .type "tuple") (hdat:o.data= .seq xs k) (hd:o.dict=Wx) (hA:A.handled=Wx)
  (h: ∀ h' tk,(∀ b o,s.heap.get? b=Wv o->h'.get? b=Wv o)->Q Wx { s with heap:=h',toks:=tk}):W3 (W8 prog w) A (getAttr? (.ref a) "keys") Q E s:=by
 obtain⟨c,dct,dat,sl⟩:=o;simp only at hc hdat hd;subst hc hdat hd;obtain⟨h0,gs,dr,t0,o0⟩:=s;have hT: ∀ k,(Shared.mk h0 gs dr k o0).TypeIs (.ref a) "tuple" :=λ_=>aeG _ (ab5 hx rfl);have f1:=sub_AttributeError;have f3:=F.slot_tuple_getattribute.lookup;have f4:=F.slot_tuple_getattribute.bind (.ref a);have f5:=am_tuple_getattr_none;unfold getAttr?;unfold getAttrBy?;unfold getAttrBy
 repeat (any_goals (first | assumption | exact hT _ | ((with_reducible show W3 _ _ (call (Value.builtin "tuple.__getattribute__") _ _) _ _ _);refine YV F.slot_tuple_getattribute (hT _) am_entry_tuple_getattribute (F.args_tuple_getattribute_2 _ _) (meets_getattribute_miss_tuple a xs k sl "keys" _ rJ (by decide +kernel)) ⟨hx,hA,λh' tk' e hx'=>?_⟩) | wp_step))
 obtain⟨_,_,he⟩:=hx'.there
 with_reducible_and_instances unfold getattributeRaised
 repeat (any_goals (first | exact he | assumption | wp_step))
 exact h _ _ λb o e=>hx'.keeps b o e
end
section
variable{prog:Xy}{w:X0}{A:Yk}{E:WC->WK->Prop}{s:WK}
theorem gW:entryFor table "dict.update.loop" =Wv Zx.«dict.update.loop» :=entryFor_of_tree (by kernel_rfl)
theorem cG:plainId "dict.update.loop" =true:=by decide +kernel
theorem Qe[Decidable c](hc:c)(h:W3 M A m Q E s):W3 M A (if c then m else m') Q E s:=by rw[if_pos hc];exact h
def nO(prog:Xy)(w:X0)(h:X8)(v:WC)(kv:Key × WC):= ∃ b o kx n,v= .ref b/\h.get? b=Wv o/\o.cls= .type "tuple" /\o.data= .seq #[kx,kv.2] n/\(aI prog w).is kv.1 kx=true
theorem nO.keeps(x:nO prog w h v kv)(k: ∀ b o,h.get? b=Wv o->o.cls= .type "tuple" ->h'.get? b=Wv o):nO prog w h' v kv :=
 by obtain⟨b,o,kx,n,e,g,c,d,r⟩:=x;exact⟨b,o,kx,n,e,k b o g c,c,d,r⟩
theorem wY{R:Result->WK->Prop}{it tp d:W2}{items:Array WC}{kvs:List (Key × WC)}{res:WC}(hh:A.handled=Wx)(hne:tp≠it)(hdi:d≠it)(hdt:d≠tp)(hl:kvs.length=items.size)(hz:items.size < WJ) :
  ∀(k i:Nat)(ii:Int)(s:WK)(acc:List (Key × WC)),items.size - i=k->i<=items.size->acc.length<=i->s.heap.IsTupleIter it tp i->s.heap.IsTuple tp items->s.heap.DictOf (aI prog w) d acc->(∃ od,s.heap.get? d=Wv od/\od.cls= .type "dict")->(∃ oi,s.heap.get? it=Wv oi/\oi.cls= .type "tuple_iterator") ->
   (∀(j:Nat)(v:WC)(kv:Key × WC),items[j]?=Wv v->kvs[j]?=Wv kv->nO prog w s.heap v kv) ->
   (∀ s' ,s'.heap.DictOf (aI prog w) d (merged acc (kvs.drop i))->(∃ h' tk,s'={ s with heap:=h',toks:=tk})->(∀ b o,b≠d->b≠it->s.heap.get? b=Wv o->s'.heap.get? b=Wv o)->R (.ok (.ret res)) s') ->
   aaR (W8 prog w) A (.builtin "dict.update.loop" ⟨[.ref d,.ref it,.int ii 0,res],[]⟩) R s:=by
 have W:=Walks.tuple (prog:=prog) (w:=w) (A:=A.in1) hh it tp hne items;intro k
 induction k with
 | zero =>
  intro i ii s acc hk hi hac hit htp hd hdc hic hP hR
  obtain rfl:i=items.size:=Nat.le_antisymm hi (by omega)
  refine ZD gW ?_
  rw[aaX cG _]
  show W3 _ A.in1 (acL (.ref it) >>= _) _ _ s
  refine Ww (W.done s _ _ ⟨hit,htp⟩ λh' tk keep=>?_)
  refine WI (hR _ ?_ ⟨h',tk,rfl⟩ λb o _ hb e=>keep b o (by simpa using hb) e)
  rw[Ye (by omega)]
  exact hd.at λo e=>keep d o (by simpa using hdi) e
 | succ k ih =>
  intro i ii s acc hk hi hac hit htp hd hdc hic hP hR
  have hlt:=Nat.lt_of_le_of_ne hi (by omega)
  refine ZD gW ?_
  rw[aaX cG _]
  show W3 _ A.in1 (acL (.ref it) >>= _) _ _ s
  refine Ww (W.item i s _ _ hlt ⟨hit,htp⟩ λv h' tk hv hst keep=>?_)
  have hkv:i < kvs.length:=by omega
  obtain⟨b,o,kx,n,rfl,hb,hc,hdat,his⟩:=hP i v kvs[i] hv (by simp[hkv])
  have hbi:b≠it:=λz=>by
   obtain⟨oi,e1,e2⟩:=hic;rw[z,e1] at hb;cases hb;rw[e2] at hc;exact absurd hc (by decide)
  have hb':=keep b o (by simpa using hbi) hb
  have hT:(({ s with heap:=h',toks:=tk}:WK)).TypeIs (.ref b) "tuple" :=⟨o,hb',hc⟩
  have hd':=hd.at λo e=>keep d o (by simpa using hdi) e
  dsimp only
  refine Ww (XQ (Ww (wpAny_tryCatch ?_)))
  unfold Builtin.Dict.pairItems
  refine Ww (Zt hT (Qe (by decide) (Ww (Ya hb' hdat (WI ?_)))))
  refine XQ (wpAny_dictSet_pairs (hsz:=by omega) his hd' λh'' dd hs=>?_)
  obtain⟨od,hod,hodc⟩:=hdc
  have keep2:=λb o h1 h2 e=>(hs.2 b h1).trans (keep b o (by simpa using h2) e)
  refine WI ⟨abN cG _,?_⟩
  refine ih (i+1) (ii+1) _ (stored acc kvs[i].1 kvs[i].2) (by omega) hlt (Xb (stored_length_le _ _ _) (by omega)) (hst.1.at λo e=>(hs.2 it (Za hdi)).trans e) (htp.at λo e=>keep2 tp o (Za hdt) hne e) dd ?_ ?_ ?_ ?_
  . obtain⟨q,es,ep,e1,e2,_⟩:=dd;exact⟨q,e1,e2.1⟩
  . obtain⟨oi,e1,e2,_⟩:=hst.1;exact⟨oi,(hs.2 it (Za hdi)).trans e1,e2⟩
  . intro j v kv e1 e2;refine(hP j v kv e1 e2).keeps λb' o' e3 e4=>keep2 b' o' (λz=>?_) (λz=>?_) e3
    . rw[z,hod] at e3;cases e3;rw[hodc] at e4;exact absurd e4 (by decide)
    . obtain⟨oi,f1,f2⟩:=hic;rw[z,f1] at e3;cases e3;rw[f2] at e4;exact absurd e4 (by decide)
  . rintro s' dd' ⟨h3,tk3,rfl⟩ keep3;refine hR _ ?_ ⟨h3,tk3,rfl⟩ λb o h1 h2 e=>keep3 b o h1 h2 (keep2 b o h1 h2 e);have e:=Yh hkv;rw[e];exact dd'
theorem rK{p:W2}{o:Obj}{items:Array WC}{n:Nat}{kvs:List (Key × WC)}{Q:WC->WK->Prop}(hh:A.handled=Wx)(hb:X9 < s.heap.objs.size)(hp:s.heap.get? p=Wv o)(hc:o.cls= .type "tuple")(hdt:o.data= .seq items n)(hdn:o.dict=Wx)
  (hl:kvs.length=items.size) (hz:items.size < WJ) (hP: ∀(j:Nat)(v:WC)(kv:Key × WC),items[j]?=Wv v->kvs[j]?=Wv kv->nO prog w s.heap v kv)
  (h: ∀ h' tk,h'.DictOf (aI prog w) s.heap.objs.size (merged [] kvs)->(∀ b o,s.heap.get? b=Wv o->h'.get? b=Wv o)->Q (.ref s.heap.objs.size) { s with heap:=h',toks:=tk}) :
  W3 (W8 prog w) A (call (.type "dict") [.ref p]) Q E s:=by
 refine acQ (Q₁ :=λz u=>z= .ref s.heap.objs.size/\u={ s with heap:=s.heap.push { cls:= .type "dict",data:= .dict #[]}}) F.kt_called_dict (F.kt_typeCall_dict_1 _) F.entry_dict_init (kt_code_dict_new _ ⟨rfl,rfl⟩) ?_;rintro obj s₁ ⟨rfl,rfl⟩;have up: ∀ b o,s.heap.get? b=Wv o->(s.heap.push { cls:= .type "dict",data:= .dict #[]}).get? b=Wv o:=λb o e=>WB _ e;have hnew:(s.heap.push { cls:= .type "dict",data:= .dict #[]}).DictOf (aI prog w) s.heap.objs.size []:=acx s.heap;have hp1:=up _ _ hp;refine⟨hnew.typeIs,F.args_dict_init_2 (.ref s.heap.objs.size) (.ref p),?_⟩
 with_unfolding_all refine Ww (m:=abO _ _) (Ww (acF hnew.typeIs (WI ?_)))
 show W3 _ _ (ab6 "dict.__init__" s.heap.objs.size (.ref p) [] .none) _ _ _;refine Ww (Zt (T:= "tuple") ⟨o,hp1,hc⟩ ?_);refine Ww (rO hp1 hc hdt hdn hh λh1 tk1 k1=>?_);refine Ww (abm ?_);have htp1:h1.IsTuple p items:=⟨o,k1 _ _ hp1,hc,n,hdt⟩
 refine Ww (YL htp1 ?_);have up2: ∀ b o,h1.get? b=Wv o->(h1.push { cls:= .type "tuple_iterator",data:= .fields #[.ref p,.int 0 0]}).get? b=Wv o:=λb o e=>WB _ e;have hd1:=k1 _ _ (WS _ rfl);have hpl:=WN (k1 _ _ hp1);have hdl:=WN hd1;have hps:=WN hp;refine WI ⟨abN cG _,?_⟩;refine wY (A:=A.in1) (it:=h1.objs.size) (tp:=p) (kvs:=kvs) hh (W7 hpl) (W7 hdl) (Yq hps) hl hz items.size 0 0 _ [] rfl (Xv _) (WG _) ⟨_,WS _ rfl,rfl,rfl⟩ (htp1.push _) ?_ ⟨_,up2 _ _ hd1,rfl⟩ ⟨_,WS _ rfl,rfl⟩ ?_ ?_
 . exact(hnew.at λo e=>up2 _ o (k1 _ o e))
 . exact λj v kv e1 e2=>(hP j v kv e1 e2).keeps λb o e _=>up2 b o (k1 b o (up b o e))
 . rintro s' dd ⟨h3,tk3,rfl⟩ keep3;refine⟨rfl,h h3 tk3 (by simpa using dd) λb o e=>keep3 b o (W7 (WN e)) (W7 (WN (k1 _ _ (up _ _ e)))) (up2 _ _ (k1 _ _ (up _ _ e)))⟩
end
section
variable{X:Cx}
def tM(H:Hp)(y:V)(kv:Key × V):= ∃ b,y= .ref b/\H b=Wv (.tup [kV kv.1,kv.2])
theorem sP(ok:kf P w H h): ∀{ys kvs ak},XZ (tM H) ys kvs->Vals ys ak-> ∃ vs ,KV kvs vs/\vs.length=ak.length /\
  ∀(j:Nat) v kv,ak[j]?=Wv v->vs[j]?=Wv kv->nO P w h v kv
 | _,_,_,.nil,.nil=>⟨[],.nil,rfl,λj v kv e=>by simp at e⟩
 | _,_,_,.cons (b:=kv0) hp hr,.cons hv hrv=>by
  obtain⟨vs,h1,h2,h3⟩:=sP ok hr hrv;obtain⟨b,rfl,hb⟩:=hp;obtain⟨_,its0,r0,o,e1,e2,n,e3,_⟩:=(show aW P w H h b (.tup [kV kv0.1,kv0.2]) from ok b _ hb)
  obtain⟨u1,u2,rfl,r1,r2⟩:=vals2 r0;cases(show _=W6 b from hv);refine⟨(kv0.1,u2)::vs,.cons ⟨rfl,r2⟩ h1,by simp[h2],λj v kv f1 f2=>?_⟩;cases j with
  | zero =>
   simp only[List.getElem?_cons_zero,Zc] at f1 f2
   subst f1 f2
   exact⟨b,o,u1,n,rfl,e1,e2,e3,mC r1⟩
  | succ j=>exact h3 j v kv (by simpa using f1) (by simpa using f2)
theorem KV.wJ(r:KV kvs vs):KV (cU [] kvs) (merged [] vs):=KV.merge r .nil
theorem oK(hc:X.calm=true):aS X (.type "dict") (λxs H Q=> ∃ p ys kvs,xs=[.ref p]/\H p=Wv (.tup ys)/\XZ (tM H) ys kvs/\ys.length < WJ/\ ∀ d,H d=Wx->Q (.ref d) (upd H d (.dK (cU [] kvs)))):=by
 intro pins s σ H xs us Q I r h;obtain⟨p,ys,kvs,rfl,hp,hP,hz,q⟩:=h;obtain⟨u,rfl,ru⟩:=vals1 r;cases(show u=W6 p from ru);obtain⟨_,ak,r0,o,e1,e2,n,e3,e4⟩:=(show aW X.prog X.w H s.heap p (.tup ys) from I.bA p _ hp)
 obtain⟨vs,h1,h2,h3⟩:=sP I.bA hP r0;have hlen:=r0.length;have hk:=Ze hP;refine rK (kvs:=vs) (I.ok.hd hc) I.big e1 e2 e3 e4 (by simpa using h2) (by simp;omega) (λj v kv f1 f2=>h3 j v kv (by simpa using f1) f2) λh' tk dd keep=>?_;have hle:(cU [] kvs).length<=WJ:=by have:=eT kvs [];simp at this;omega
 obtain⟨hn,I'⟩:=I.mX (a:=s.heap.objs.size) (o:= .dK (cU [] kvs)) (t':=tk) keep (YS (WG _)) (uB hle (beq_eq_false_iff_ne.mpr (Za (W7 I.big))) (KV.wJ h1) dd);exact⟨.ref _,_,I',rfl,q _ hn⟩
end
def nZ(P:Xy)(w:X0)(K:Wz)(mg:Str->Option WC) base x k (ps:List Str) sp :=
 ∃(f:W2)(fd:Z7),lU P w K mg base wZ k f fd ps sp/\mg x=Wv (.ref f)/\Zk K (.ref f)=true/\Binds K fd ps []/\ ∀ us ,us.length=ps.length->Z8 fd ⟨us,[]⟩=pure (ps.zip us)
theorem CP.args{K st}{ps:List Str}(F:CP K x qual st f fd)
  (h: ∀ kV doc pm an cdv ct us,us.length=ps.length->Z8 (Ym x qual (df st) (bO st) (aD st) .none kV doc pm an cdv ct) ⟨us,[]⟩=pure (ps.zip us)): ∀ us ,us.length=ps.length->Z8 fd ⟨us,[]⟩=pure (ps.zip us):=by
 obtain⟨oc,od,kV,doc,pm,an,cdv,ct,osl,rfl,lk,hcd⟩:=F.ex;exact h kV doc pm an cdv ct
def At(K:Wz)(mg:Str->Option WC) x st:= ∃(f:W2)(fd:Z7),CP K x x st f fd/\mg x=Wv (.ref f)
section
variable{P:Xy}{w:X0}{K:Wz}{mg:Str->Option WC}{base:X8}
theorem At.ok{st}(a:At K mg x st)(S:fU N ps (aD st))
  (hb: ∀ kV doc pm an cdv ct us,us.length=ps.length->Z8 (Ym x x (df st) (bO st) (aD st) .none kV doc pm an cdv ct) ⟨us,[]⟩=pure (ps.zip us))
  (len: ∀ vs H Q E,sp vs H Q E->vs.length=ps.length)
  (hbody: ∀ f cdv A outer s H vs Q E,dH k (A.deeper (abj x (aD st) s.heap.objs.size f cdv))->sp vs H Q E ->
   ∃ t,xI (lQ wZ P w K mg base N x (aD st) f cdv A outer s H E).wq (bO st) t/\t { nx:=λ_ H'=>Q .non H',rt:=Q} (start N vs) H):nZ P w K mg base x (k+1) ps sp:=by
 obtain⟨f,fd,F,hm⟩:=a;exact⟨f,fd,F.ok S len λcdv A outer s H vs Q E=>hbody f cdv A outer s H vs Q E,hm,F.kp,F.binds hb,F.args hb⟩
theorem At.BP{st}(a:At K mg x st)(hb: ∀ (kV doc pm) (an) (cdv ct) (us),us.length=ps.length->Z8 (Ym x x (df st) (bO st) (aD st) .none kV doc pm an cdv ct) ⟨us,[]⟩=pure (ps.zip us))
  (no: ∀ vs H Q E,¬ sp vs H Q E):nZ P w K mg base x 0 ps sp:=by
 obtain⟨f,fd,F,hm⟩:=a;exact⟨f,fd,⟨λvs H Q E h=>absurd h (no vs H Q E),λA outer s H args us vs Q E _ _ _ _ h=>absurd h (no vs H Q E)⟩,hm,F.kp,F.binds hb,F.args hb⟩
end
section
variable{X:Cx}{x:Str}{k j:Nat}{ps:List Str}{sp:Sp}{e:XH}{es:List XH}{t:TA}{p pos:Pos}
theorem Vn(D:nZ X.prog X.w X.K X.mg X.base x j ps sp)(hr:dH k X.A)(hg:Gl X x)(hj:j<=k)(ha:PA X (e::es) t)(hdb:(x == ("__debug__"))=false:=by decide)
  (he:Xp (e::es) X.env=(false,Yu e X.env)::Xp es X.env:=by rfl) (hpl:(aat pos (Xp es X.env)).any (·.1)=false:=by rfl):PE X (.Call (.Name x p) (e::es) [] pos) (Ak sp [] E0 t):=by
 obtain⟨f,fd,F,hm,kp,bd,_⟩:=D;exact Jq F (hr.mono hj) hg hm kp bd .nil Qp ha hdb he hpl
end
theorem RA{K st kV}(X:K.In h)(G:h.Ns Xn mg)
  (a:Yo K Xn x=Wv (Wv (.ref f))) (l:K.lookup f=Wv ⟨oc,od,.func (Ym x x (df st) (bO st) (aD st) .none kV doc pm an cdv ct),osl⟩) (c:acm K cdv x=true) (k:Zk K (.ref f)=true):At K mg x st :=
 ⟨f,_,L4 l c k,Yp X G a⟩
structure Bl(mg:Str->Option WC):Prop where
 len:mg "len" =Wx
 range:mg "range" =Wx
 isinstance:mg "isinstance" =Wx
 int:mg "int" =Wx
 bool:mg "bool" =Wx
 tuple:mg "tuple" =Wx
 dict:mg "dict" =Wx
 sorted:mg "sorted" =Wx
 min:mg "min" =Wx
 max:mg "max" =Wx
 abs:mg "abs" =Wx
def Kp a (H H':Hp):= ∀ b o,b≠a->H b=Wv o->H' b=Wv o
theorem Kp.trans(x:Kp a H H1)(y:Kp a H1 H2):Kp a H H2:=λb o n h=>y b o n (x b o n h)
theorem sd.kp(x:sd H H'):Kp a H H':=λb o _ h=>x b o h
theorem Kp.st:Kp a H (upd H a o):=λb u n q=>by rw[ax n];exact q
theorem Kp.lst{a b H H' K xs kvs}(x:Kp a H H')(ha:H a=Wv (.dK kvs))(h:hW K H b xs):hW K H' b xs:=by
 rcases h with(h | ⟨o,h⟩) | h
 . exact .inl (.inl (x _ _ (sW h ha (by intro z;cases z)) h))
 . exact .inl (.inr ⟨o,x _ _ (sW h ha (by intro z;cases z)) h⟩)
 . exact .inr h
theorem Kp.tup{a b H H' xs kvs}(x:Kp a H H')(ha:H a=Wv (.dK kvs))(h:H b=Wv (.tup xs)):H' b=Wv (.tup xs):=x _ _ (sW h ha (by intro z;cases z)) h
class wb (t:TE):Prop where
 m: ∀ σ H Q Q',(∀ x H1,Q x H1->Q' x H1)->t σ H Q->t σ H Q'
class wX (t:TT):Prop where
 m: ∀ σ H Q Q',(∀ x H1,Q x H1->Q' x H1)->t σ H Q->t σ H Q'
class Vx (t:TA):Prop where
 m: ∀ σ H Q Q',(∀ x H1,Q x H1->Q' x H1)->t σ H Q->t σ H Q'
class Vy (t:TO):Prop where
 m: ∀ σ H Q Q',(∀ x H1,Q x H1->Q' x H1)->t σ H Q->t σ H Q'
class VQ (t:TI):Prop where
 m: ∀ σ H Q Q',(∀ x H1,Q x H1->Q' x H1)->t σ H Q->t σ H Q'
class V3 (r:R2):Prop where
 m: ∀ x y H Q Q',(∀ x H1,Q x H1->Q' x H1)->r x y H Q->r x y H Q'
class VG (r:V->Hp->VK->Prop):Prop where
 m: ∀ x H Q Q',(∀ x H1,Q x H1->Q' x H1)->r x H Q->r x H Q'
class VR (r:List V->Hp->VK->Prop):Prop where
 m: ∀ x H Q Q',(∀ x H1,Q x H1->Q' x H1)->r x H Q->r x H Q'
class VA (r:V->List V->Hp->VK->Prop):Prop where
 m: ∀ x xs H Q Q',(∀ x H1,Q x H1->Q' x H1)->r x xs H Q->r x xs H Q'
class VB (r:V->Option Int->Option Int->Hp->VK->Prop):Prop where
 m: ∀ x l u H Q Q',(∀ x H1,Q x H1->Q' x H1)->r x l u H Q->r x l u H Q'
class UO (sp:Sp):Prop where
 m: ∀ vs H Q Q' E,(∀ x H1,Q x H1->Q' x H1)->sp vs H Q E->sp vs H Q' E
section
variable{X:Cx}
def S9(K:Wz):List V->Hp->VK->Prop:=λxs H Q=> ∃ p ys,xs=[.ref p]/\(hW K H p ys\/fw K H p ys)/\Q (.int ys.length) H
def SW:List V->Hp->VK->Prop:=λxs H Q=> ∃ z,xs=[.str z]/\z.length<=WJ/\Q (.int z.length) H
theorem Js:aS X (.builtin "len") (λxs H Q=>S9 X.K xs H Q\/SW xs H Q):=vj.or uz
def S8(K:Wz):List V->Hp->VK->Prop:=λxs H Q=> ∃ x T t b,xs=[x,.ty T]/\j8 K H x t/\abi K t (.type T)=Wv b/\Q (.bl b) H
theorem IH:aS X (.builtin "isinstance") (S8 X.K):=xD
def Fo(K:Wz):List V->Hp->VK->Prop:=λxs H Q=> ∃ p ss,xs=[.ref p]/\hW K H p (ss.map V.str)/\ss.length < 64/\ ∀ l ss',H l=Wx->ss'.Perm ss->abD ss'=true->Q (.ref l) (upd H l (.lst (ss'.map V.str)))
def E3:List V->Hp->VK->Prop:=λxs H Q=> ∃ d kvs ss,xs=[.ref d]/\H d=Wv (.dK kvs)/\kvs.map (·.1)=ss.map YQ/\ss.length < 64/\ ∀ l ss',H l=Wx->ss'.Perm ss->abD ss'=true->Q (.ref l) (upd H l (.lst (ss'.map V.str)))
def Nb:List V->Hp->VK->Prop:=λxs H Q=> ∃ p ys kvs,xs=[.ref p]/\H p=Wv (.tup ys)/\XZ (tM H) ys kvs/\ys.length < WJ/\ ∀ d,H d=Wx->Q (.ref d) (upd H d (.dK (cU [] kvs)))
theorem Ew(hc:X.calm=true):aS X (.type "dict") Nb:=oK hc
def RQ:List V->Hp->VK->Prop:=λxs H Q=>(∃ i,xs=[.int i]/\Q (.int i) H)\/ ∃ k,xs=[.bl k]/\Q (.int (if k then 1 else 0)) H
def P5(K:Wz):List V->Hp->VK->Prop:=λxs H Q=> ∃ p ys,xs=[.ref p]/\((hW K H p ys/\ ∀ l,H l=Wx->Q (.ref l) (upd H l (.tup ys)))\/(fw K H p ys/\Q (.ref p) H))
theorem Jf:aS X (.type "int") RQ:=Cm
theorem Kc:aS X (.type "tuple") (P5 X.K):=rS
end
structure M8(D D':Ends):Prop where
 nx: ∀ σ H,D.nx σ H->D'.nx σ H
 rt: ∀ v H,D.rt v H->D'.rt v H
 bk: ∀ σ H,D.bk σ H->D'.bk σ H
 ct: ∀ σ H,D.ct σ H->D'.ct σ H
class V1 (t:TS):Prop where
 m: ∀ D D' σ H,M8 D D'->t D σ H->t D' σ H
class xA (g:TG):Prop where
 m: ∀ x σ H Q Q',(∀ σ2 H2,Q σ2 H2->Q' σ2 H2)->g x σ H Q->g x σ H Q'
class Vm (g:Gm):Prop where
 m: ∀ x σ H Q Q',(∀ σ2 H2,Q σ2 H2->Q' σ2 H2)->g x σ H Q->g x σ H Q'
theorem Qv{K:Wz}{a:W2}{xs:List V}{k:Nat}{g:TG}{tt:TT}{te:TE}[xA g][wX tt][wb te]{σ :St}{H:Hp}{Q:VK}(Pv:Nat->List V->Hp->Prop)(h0:Pv 0 [] H)(hl: ∀ i ys H,i<=xs.length->Pv i ys H->fw K H a xs/\ys.length<=i)(hz:xs.length<=WJ)
  (hs: ∀ i x ys H,xs[i]?=Wv x->Pv i ys H->g x (σ ++WO k Wx) H fun σ2 H2=>tt σ2 H2 λb H3=>if b=true then te σ2 H3 λy H4=>Pv (i+1) (ys++[y]) H4 else Pv (i+1) ys H3)
  (hd: ∀ ys H,Pv xs.length ys H-> ∀ p,H p=Wx->Q (.ref p) (upd H p (.lst ys))) :
  ∃ W:Nat->Nat->List V->Hp->Prop,(∃ m,W 0 m [] H)∧ ∀ i m ys H,W i m ys H->((Dy K a).stop i H∧ ∀ p,H p=Wx->Q (.ref p) (upd H p (.lst ys))) ∨
   ((Dy K a).go i H∧ys.length < WJ∧ ∀ x H',(Dy K a).Kz i H x H'->g x (σ ++WO k Wx) H' fun σ2 H2=>tt σ2 H2 λb H3=>if b=true then te σ2 H3 λy H4=> ∃ m',m' < m∧W (i+1) m' (ys++[y]) H4 else ∃ m',m' < m∧W (i+1) m' ys H3):=MN (K:=K) (a:=a) (k:=k) (g:=g) (tt:=tt) (te:=te) (σ := σ) (Q:=Q) Pv h0 hl hz hs hd (λx σ H Q Q' f h=>xA.m (g:=g) x σ H Q Q' f h) (wX.m (t:=tt)) (wb.m (t:=te))
noncomputable def stK(a:W2)(k:Int)(l:Option Int):List (Key × V):=match l with
 | none=>[(.inr "script",.ref a),(.inr "k",.int k)]
 | some l=>[(.inr "script",.ref a),(.inr "k",.int k),(.inr "left",.int l)]
def zS(K:Wz)(H:Hp) a (xs:List V):=(∃ o,H a=Wv (.kU o (.lst xs))) \/
 ∃(o:Obj)(ak:Array WC)(n:Nat),K.lookup a=Wv o/\o.cls= .type "list" /\o.dict=Wx/\o.data= .seq ak n/\ak.size<=WJ/\Vals xs ak.toList
theorem zS.sq{K}(h:zS K H a xs):hW K H a xs:=by
 rcases h with⟨o,h⟩ | h
 . exact .inl (.inr ⟨o,h⟩)
 . exact .inr h
theorem zS.upd{K}(h:zS K H a xs)(hc:H c=Wv u)(hu: ∀ o w,u≠ .kU o w):zS K (upd H c o') a xs:=by
 rcases h with⟨o,h⟩ | h
 . exact .inl ⟨o,by rw[ax (sW h hc λz=>hu _ _ z.symm)];exact h⟩
 . exact .inr h
theorem Kp.kU{st a H H' K xs kvs}(x:Kp st H H')(ha:H st=Wv (.dK kvs))(h:zS K H a xs):zS K H' a xs:=by
 rcases h with⟨o,h⟩ | h
 . exact .inl ⟨o,x _ _ (sW h ha (by intro z;cases z)) h⟩
 . exact .inr h
theorem sd.kU{a H H' K xs}(x:sd H H')(h:zS K H a xs):zS K H' a xs:=by
 rcases h with⟨o,h⟩ | h
 . exact .inl ⟨o,x _ _ h⟩
 . exact .inr h
def rF(K:Wz) H st k (l:Option Int):= ∃(a:W2)(ns:List Int),H st=Wv (.dK (stK a k l))/\zS K H a (ns.map V.int)/\ns.length<=63/\0<=k
theorem rF.keep{K st}(x:rF K H st k l)(y:Kp st H H')(e:H' st=H st):rF K H' st k l :=
 by obtain⟨a,ns,h1,h2,h3,h4⟩:=x;exact⟨a,ns,e.trans h1,y.kU h1 h2,h3,h4⟩
theorem rF.upd{K st}(x:rF K H st k l)(hc:H c=Wv u)(hu: ∀ o w,u≠ .kU o w)(hn:c≠st):rF K (upd H c o) st k l :=
 by obtain⟨a,ns,h1,h2,h3,h4⟩:=x;exact⟨a,ns,by rw[ax (Za hn)];exact h1,h2.upd hc hu,h3,h4⟩
theorem rF.at{K st}(x:rF K H st k l): ∃ kvs,H st=Wv (.dK kvs):=by obtain⟨a,ns,h1,_⟩:=x;exact⟨_,h1⟩
theorem rF.pos{K st}(x:rF K H st k l):0<=k:=by obtain⟨a,ns,h1,_,_,h⟩:=x;exact h
noncomputable def noStar:XH->Bool
 | .Starred _ _=>false
 | _=>true
theorem bE(h:noStar e=true):Xp (e::es) env=(false,Yu e env)::Xp es env:=by
 cases e<;>first | rfl | cases h
theorem lb: ∀{es},es.all noStar=true->(aat pos (Xp es env)).any (·.1)=false
 | [],_=>rfl
 | e::es,h=>by
  have h:=acR.mp (aab ▸ h);rw[bE h.1];have:=lb (pos:=pos) (env:=env) h.2;exact this
section
variable{X:Cx}{e:XH}{es:List XH}{te:TE}{t:TA}
theorem pk(ha:PE X e te)(hr:PA X es t)(hs:noStar e=true:=by rfl):PA X (e::es) (D9 te t):=JU ha hr (bE hs)
variable{x:Str}{k j:Nat}{ps:List Str}{sp:Sp}{p pos:Pos}{id T:String}{r:List V->Hp->VK->Prop}
theorem kd(D:nZ X.prog X.w X.K X.mg X.base x j ps sp)(hr:dH k X.A)(hg:Gl X x)(hj:j<=k)(ha:PA X (e::es) t)(hdb:(x == ("__debug__"))=false:=by decide)(he:noStar e=true:=by rfl)(hpl:es.all noStar=true:=by rfl) :
  PE X (.Call (.Name x p) (e::es) [] pos) (Ak sp [] E0 t):=Vn D hr hg hj ha hdb (bE he) (lb hpl)
theorem kB(hc:aS X (.builtin id) r)(hg:Gl X x)(hm:X.mg x=Wx)(hv:Yc x=Wv (.builtin id))(ha:PA X (e::es) t)(hn:x≠ "__name__" :=by decide)(hdb:(x == ("__debug__"))=false:=by decide)(he:noStar e=true:=by rfl)(hpl:es.all noStar=true:=by rfl) :
  PE X (.Call (.Name x p) (e::es) [] pos) (MX r t):=Fb hc hg hm hv ha hn hdb (bE he) (lb hpl)
theorem kT(hc:aS X (.type T) r)(hg:Gl X x)(hm:X.mg x=Wx)(hv:Yc x=Wv (.type T))(ha:PA X (e::es) t)(hn:x≠ "__name__" :=by decide)(hdb:(x == ("__debug__"))=false:=by decide)(he:noStar e=true:=by rfl)(hpl:es.all noStar=true:=by rfl) :
  PE X (.Call (.Name x p) (e::es) [] pos) (MX r t):=Bb hc hg hm hv ha hn hdb (bE he) (lb hpl)
end
structure QE(X:Cx)(e:XH)(t:TE):Prop where h:PE X e t
structure QT(X:Cx)(e:XH)(t:TT):Prop where h:PT X e t
structure QW(X:Cx)(e:XH)(t:TT):Prop where h:PW X e t
structure QA(X:Cx)(es:List XH)(t:TA):Prop where h:PA X es t
structure QO(X:Cx)(e:Option XH)(t:TO):Prop where h:PO X e t
structure QS(X:Cx)(s:acC)(t:TS):Prop where h:PS X s t
structure Dg(X:Cx)(s:List acC)(t:TS):Prop where h:xI X s t
structure QG(X:Cx)(e:XH)(t:TG):Prop where h:PG X e t
structure L3(X:Cx)(e:List XH)(t:Gm):Prop where h:SF X e t
structure QI(X:Cx)(tg e:XH)(t:TI):Prop where h:PI X tg e t
structure QF(X:Cx)(es:List XH)(t:TT):Prop where h:PF X es t
structure QP(X:Cx)(pos:Pos)(ks:List (Option XH))(vs:List XH)(t:List (TE × TE)):Prop where h:Rz X pos ks vs t
section
variable{X:Cx}{a b c e o i:XH}{es:List XH}{ta tb tc te td ty tx tv to ti:TE}{t t':TT}{tr:TA}{pos p p2 pos' apos cpos:Pos}{x y:Str}
theorem qv i (hN:X.N[i]?=Wv x:=by rfl) (hv:Qg X.env.scope x:=by first | exact ad5 rfl | exact acS (ad5 rfl) | exact acS (acS rfl)) (hd:(x == ("__debug__"))=false:=by decide)
  (hcd:(x == ("__classdict__"))=false:=by decide):QE X (.Name x pos) (Ri i):=⟨OT hN hv hd hcd⟩
theorem OE:QE X (.Constant (.int n) j pos) (tC (.int n)):=⟨Oi⟩
theorem Rb:QE X (.Constant (.bool n) j pos) (tC (.bl n)):=⟨TM⟩
theorem OD:QE X (.Constant .none j pos) (tC .non):=⟨Qa⟩
theorem M4:QE X (.Constant (.str n) j pos) (tC (.str n)):=⟨Pc⟩
theorem Aa(hg:Gl X x)(hm:X.mg x=Wv u)(r:RelV v u)(hd:(x == ("__debug__"))=false:=by decide):QE X (.Name x pos) (tC v):=⟨As hg hm r hd⟩
theorem Kk(hg:Gl X x)(hm:X.mg x=Wx)(hv:Yc x=Wv u)(r:RelV v u)(hn:x≠ "__name__" :=by decide)(hd:(x == ("__debug__"))=false:=by decide):QE X (.Name x pos) (tC v):=⟨Hy hg hm hv r hn hd⟩
theorem Tu(ho:cZ X (Yg op) r)(ha:QE X a ta)(hb:QE X b tb):QE X (.BinOp a op b pos) (Je r ta tb):=⟨Q1 ho ha.h hb.h⟩
theorem Ng(ha:QE X a ta):QE X (.UnaryOp .Not a pos) (Lf ta):=⟨NM ha.h⟩
theorem NK(h:QE X a ta):QE X (.BoolOp op [a] pos) ta:=⟨Mt h.h⟩
theorem Mf{rest}(ha:QE X a ta)(hb:QE X (.BoolOp .And (b::rest) pos) tb):QE X (.BoolOp .And (a::b::rest) pos) (Lu ta tb):=⟨NS ha.h hb.h⟩
theorem Tt{rest}(ha:QE X a ta)(hb:QE X (.BoolOp .Or (b::rest) pos) tb):QE X (.BoolOp .Or (a::b::rest) pos) (QY ta tb):=⟨RW ha.h hb.h⟩
theorem DU(hc:QT X c t)(ha:QE X a ta)(hb:QE X b tb):QE X (.IfExp c a b pos) (VI t ta tb):=⟨FG hc.h ha.h hb.h⟩
theorem Nl(h:QA X es tr):QE X (.Tuple es x1 pos) (TC tr):=⟨Oj h.h⟩
theorem OS(h:QA X es tr):QE X (.List es pos) (R9 tr):=⟨Nj h.h⟩
theorem Ed:QE X (.Dict [] [] pos) Ds:=⟨Ez⟩
theorem Jk:QP X pos [] [] []:=⟨HJ⟩
theorem Dp(hk:QE X k tk)(hv:QE X v tv)(hr:QP X pos ks vs trs):QP X pos (Wv k::ks) (v::vs) ((tk,tv)::trs):=⟨Dz hk.h hv.h hr.h⟩
theorem ID(h:QP X pos ks vs trs)(hall:ks.all (·.isSome)=true)(hl:ks.length=vs.length)(h0:ks≠[])(h15:ks.length<=15):QE X (.Dict ks vs pos) (KY trs):=⟨G0 h.h hall hl h0 h15⟩
theorem G1:QO X Wx AQ:=⟨Jm⟩
theorem Jv(h:QE X e te):QO X (Wv e) (Le te):=⟨HW h.h⟩
theorem EG{lo}(hr:Gn X r)(he:QE X e te)(hl:QO X lo tl)(hu:QO X hi th):QE X (.Subscript e (.Slice lo hi Wx p2) pos) (V9 r te tl th):=⟨Gd hr he.h hl.h hu.h⟩
theorem Ro(hr:AW X r)(ha:QE X a ta)(hb:QE X b tb)(hs:uv b):QE X (.Subscript a b pos) (Je r ta tb):=⟨Tx hr ha.h hb.h hs⟩
theorem E6(hu:X.A.units+1 < ZV)(ho:QE X o td)(he:QE X e ty)(hf:QE X f tx)(m:M2 X o "get" apos e f cpos):QE X (.Call (.Attribute o "get" apos) [e,f] [] cpos) (C9 td ty tx):=⟨F9 hu ho.h he.h hf.h m⟩
theorem uS:QA X [] Tc:=⟨OW⟩
theorem qk(ha:QE X e te)(hr:QA X es tr)(hs:noStar e=true:=by rfl):QA X (e::es) (D9 te tr):=⟨pk ha.h hr.h hs⟩
variable{k j:Nat}{ps:List Str}{sp:Sp}{id T:String}{r:List V->Hp->VK->Prop}
theorem qd(D:nZ X.prog X.w X.K X.mg X.base x j ps sp)(hr:dH k X.A)(hg:Gl X x)(hj:j<=k)(ha:QA X (e::es) tr)(hdb:(x == ("__debug__"))=false:=by decide)(he:noStar e=true:=by rfl)(hpl:es.all noStar=true:=by rfl) :
  QE X (.Call (.Name x p) (e::es) [] pos) (Ak sp [] E0 tr):=⟨kd D hr hg hj ha.h hdb he hpl⟩
theorem qB(hc:aS X (.builtin id) r)(hg:Gl X x)(hm:X.mg x=Wx)(hv:Yc x=Wv (.builtin id))(ha:QA X (e::es) tr)(hn:x≠ "__name__" :=by decide)(hdb:(x == ("__debug__"))=false:=by decide)(he:noStar e=true:=by rfl)(hpl:es.all noStar=true:=by rfl) :
  QE X (.Call (.Name x p) (e::es) [] pos) (MX r tr):=⟨kB hc hg hm hv ha.h hn hdb he hpl⟩
theorem qT(hc:aS X (.type T) r)(hg:Gl X x)(hm:X.mg x=Wx)(hv:Yc x=Wv (.type T))(ha:QA X (e::es) tr)(hn:x≠ "__name__" :=by decide)(hdb:(x == ("__debug__"))=false:=by decide)(he:noStar e=true:=by rfl)(hpl:es.all noStar=true:=by rfl) :
  QE X (.Call (.Name x p) (e::es) [] pos) (MX r tr):=⟨kT hc hg hm hv ha.h hn hdb he hpl⟩
theorem KH(pa:adv T)(slot:Slot T name id)(hty:typeOf (.builtin id)=pure (.type "method_descriptor"))(hm:KS X id rm)(ho:QE X o to)(ha:QA X [e] tr)
  (hbase:Zf o name X.env (Yu o X.env)=Yu o X.env:=by rfl) (hline:(apos.endLine == cpos.line)=true:=by rfl) (hs:noStar e=true:=by rfl) :
  QE X (.Call (.Attribute o name apos) [e] [] cpos) (V4 X.K T rm to tr):=⟨Rm pa slot hty hm ho.h ha.h hbase (by rw[bE hs];rfl) hline (bE hs) rfl⟩
theorem Iv{r}(ho:cZ X (Xh op) r)(ha:QE X a ta)(hb:QE X b tb)(hm:Yl op b=false):QE X (.Compare a [op] [b] pos) (Je r ta tb):=⟨J6 ho ha.h hb.h hm⟩
theorem Hu{r}(ho:cZ X (Xh op) r)(ha:QE X a ta)(hb:QE X b tb)(hm:Yl op b=false):QT X (.Compare a [op] [b] pos) (FO (Je r ta tb)):=⟨J7 ho ha.h hb.h hm⟩
theorem Fg{r}(ho:cZ X (Xh op) r)(ho':cZ X (Xh op') r')(ha:QE X a ta)(hb:QE X b tb)(hc:QE X c tc)(hm:lastMarks [op,op'] [b,c]=false:=by with_unfolding_all rfl):QE X (.Compare a [op,op'] [b,c] pos) (y6 r r' ta tb tc):=⟨EM ho ho' ha.h hb.h hc.h hm⟩
theorem Ms(ha:QE X a ta):QE X (.Compare a [.Is] [.Constant .none j pos'] pos) (Mh ta):=⟨NX (EV ha.h)⟩
theorem P6(ha:QE X a ta):QT X (.Compare a [.Is] [.Constant .none j pos'] pos) (tB (Mh ta)):=⟨FD (EV ha.h)⟩
theorem Jh(ha:QE X a ta):QT X (.Compare a [.IsNot] [.Constant .none j pos'] pos) (tB (KC ta)):=⟨FD (Iu ha.h)⟩
theorem Kf(ha:QT X a t):QW X (.BoolOp .And [a] pos) t:=⟨pw_and1 ha.h⟩
theorem Mu(ha:QT X a t):QW X (.BoolOp .Or [a] pos) t:=⟨pw_or1 ha.h⟩
theorem Me{rest}(ha:QT X a t)(hb:QW X (.BoolOp .And (b::rest) pos) t'):QW X (.BoolOp .And (a::b::rest) pos) (TF t t'):=⟨pw_and ha.h hb.h⟩
theorem SY{rest}(ha:QT X a t)(hb:QW X (.BoolOp .Or (b::rest) pos) t'):QW X (.BoolOp .Or (a::b::rest) pos) (V5 t t'):=⟨pw_or ha.h hb.h⟩
theorem QW.pt(h:QW X e t):QT X e t:=⟨h.h.pt⟩
theorem Oo(ha:QT X a t):QT X (.UnaryOp .Not a pos) (RF t):=⟨Mn ha.h⟩
theorem Nq(h:QE X e te)(he: ∀ whole,adZ e X.env whole=(do let v <- whole;aer e.pos;aau [v] (truthy v)):=by intro _;rfl):QT X e (tB te):=⟨P0 h.h he⟩
theorem Ai{i}(hN:X.N.Nodup)(hi:X.N[i]?=Wv x)(hx:Loc X.env.scope x)(hf:X.fn x=true\/X.env.scope.names.lookup x=Wv .local:=by first | exact .inl rfl | exact .inr rfl | assumption):QG X (.Name x pos) (gG i):=⟨IL hN hi hx hf⟩
theorem zU:L3 X [] A7:=⟨Gs⟩
theorem wd{t}(h1:QG X e t)(h2:L3 X es u)(hs:(X6 (e::es) X.env).map (·.2)=aa1 e X.env::(X6 es X.env).map (·.2):=by rfl):L3 X (e::es) (nU t u):=⟨DR h1.h h2.h hs⟩
theorem Dd{t}(hc:X.calm=true)(h:L3 X es t)(hn:(X6 es X.env).length=n:=by rfl)(hst:(X6 es X.env).findIdx? (·.1)=Wx:=by rfl):QG X (.Tuple es k pos) (xS X.K n t):=⟨LB hc h.h hn hst⟩
variable{tg iter l:XH}{wi:TI}{g:TG}{ta':TA}
theorem Mz:QF X [] Ls:=⟨N0⟩
theorem L0(h:QT X c t):QF X [c] t:=⟨Mc h.h⟩
variable{scope:aby}{ifs:List XH}{body rest:List acC}{spos py:Pos}{tb' ts us:TS}{st:acC}
theorem Fh vars (hc:X.calm=true) (hx: ∀ v s,¬ X.xe v s) (hkind:scope.kind= .function) (hlc:jg scope.names X.env.scope.names X.N vars=true) (hi:QI X tg iter wi)
  (hb: ∀ cl C s₀ H₀ ex pn,QG (fK X vars scope cl C s₀ H₀ ex pn) tg g/\QF (fK X vars scope cl C s₀ H₀ ex pn) ifs t/\QE (fK X vars scope cl C s₀ H₀ ex pn) e te) (hgk:GK X.N.length g)
  (hs: ∀ x,XM iter X.env x=pure x:=by intro _;rfl):QE X (.ListComp e [⟨tg,iter,ifs,0⟩] scope pos) (Uv vars.length wi g t te) :=
 ⟨E7 vars hc hx hkind hlc hi.h (λcl C s₀ H₀ ex pn=>by obtain⟨h1,h2,h3⟩:=hb cl C s₀ H₀ ex pn;exact⟨h1.h,h2.h,h3.h⟩) hgk hs⟩
theorem C4 vars i (hc:X.calm=true) (hx: ∀ v s,¬ X.xe v s) (hkind:scope.kind= .function) (hlc:jg scope.names X.env.scope.names X.N vars=true) (hN:X.N.Nodup) (hiy:X.N[i]?=Wv y) (hy:Loc X.env.scope y) (hi:QI X tg iter wi)
  (hb: ∀ cl C s₀ H₀ ex pn,QG (fK X vars scope cl C s₀ H₀ ex pn) tg g/\QF (fK X vars scope cl C s₀ H₀ ex pn) ifs t/\QE (fK X vars scope cl C s₀ H₀ ex pn) e te) (hgk:GK X.N.length g)
  (hsw:ZH (.ListComp e [⟨tg,iter,ifs,0⟩] scope pos) (Wv (.Name y py)) spos.line X.env=pure true:=by rfl) (hs: ∀ x,XM iter X.env x=pure x:=by intro _;rfl)
  (hf:X.fn y=true\/X.env.scope.names.lookup y=Wv .local:=by first | exact .inl rfl | exact .inr rfl | assumption) :
  QS X (.Assign [.Name y py] (.ListComp e [⟨tg,iter,ifs,0⟩] scope pos) spos) (EL vars.length i wi g t te) :=
 ⟨EJ vars i hc hx hkind hlc hN hiy hy hi.h (λcl C s₀ H₀ ex pn=>by obtain⟨h1,h2,h3⟩:=hb cl C s₀ H₀ ex pn;exact⟨h1.h,h2.h,h3.h⟩) hgk hsw hs hf⟩
theorem O3{i}(hN:X.N.Nodup)(hi:X.N[i]?=Wv x)(hx:Loc X.env.scope x)(he:QE X e te)(hs:ZH e (Wv (.Name x pos')) pos.line X.env=pure false:=by rfl)(hf:X.fn x=true\/X.env.scope.names.lookup x=Wv .local:=by first | exact .inl rfl | exact .inr rfl | assumption) :
  QS X (.Assign [.Name x pos'] e pos) (Jb te (gG i)):=⟨Nk hN hi hx he.h hs hf⟩
theorem ED(he:QE X e te)(hg:QG X tg g)(hs:abH [tg] e pos.line X.env=pure false:=by rfl)(hw:abI [tg] e X.env=pure Wx:=by rfl)(h1:(X6 [tg] X.env).map (·.2)=[aa1 tg X.env]:=by rfl):QS X (.Assign [tg] e pos) (Jb te g):=⟨L6 he.h hg.h hs hw h1⟩
theorem Sv(hc:QT X c t)(ha:Dg X A ts)(hb:Dg X B us):QS X (.If c A B pos) (QM t ts us):=⟨To hc.h ha.h hb.h⟩
theorem O7(hp:abZ (W8 X.prog X.w) X.A X.env X.xe)(hc:X.calm=true)(hi:QI X tg iter wi)(hg:QG X tg g)(hb:Dg X body tb')(hs: ∀ x,XM iter X.env x=pure x:=by intro _;rfl):QS X (.For tg iter body [] pos) (Ru wi g tb'):=⟨N4 hp hc hi.h hg.h hb.h hs⟩
theorem FQ(hp:abZ (W8 X.prog X.w) X.A X.env X.xe)(hc:QT X c t)(hb:Dg X body tb'):QS X (.While c body [] pos) (FE t tb'):=⟨FW hp hc.h hb.h⟩
theorem Ji(he:QE X e te)(hs:ZH e Wx pos.line X.env=pure false:=by rfl):QS X (.Expr e pos) (Kv te):=⟨HI he.h hs⟩
theorem NQ(he:QE X e te):QS X (.Return (Wv e) pos) (Q3 te):=⟨Nf he.h⟩
theorem IT:Dg X [] F7:=⟨Jt⟩
theorem DN(h1:QS X st ts)(h2:Dg X rest us):Dg X (st::rest) (Mo ts us):=⟨E9 h1.h h2.h⟩
theorem Iq(h1:QS X st ts):Dg X [st] ts:=⟨Ia h1.h⟩
end
theorem At.Vg{K st}(a:At K mg x st)(S:fU N ps (aD st))
  (hb: ∀ kV doc pm an cdv ct us,us.length=ps.length->Z8 (Ym x x (df st) (bO st) (aD st) .none kV doc pm an cdv ct) ⟨us,[]⟩=pure (ps.zip us))
  (len: ∀ vs H Q E,sp vs H Q E->vs.length=ps.length)
  (hbody: ∀ f cdv A outer s H vs Q E,dH k (A.deeper (abj x (aD st) s.heap.objs.size f cdv))->sp vs H Q E ->
   ∃ t,Dg (lQ wZ P w K mg base N x (aD st) f cdv A outer s H E).wq (bO st) t/\t { nx:=λ_ H'=>Q .non H',rt:=Q} (start N vs) H):nZ P w K mg base x (k+1) ps sp :=
 a.ok S hb len λf cdv A outer s H vs Q E hr h=>by obtain⟨t,q,z⟩:=hbody f cdv A outer s H vs Q E hr h;exact⟨t,q.h,z⟩
theorem ig(h:0<=r):oJ xs (Wv r) Wx=xs.drop r.toNat:=by
 have e:r=((r.toNat)):=by omega
 unfold oJ;rw[e,HT.oX,HT.mG];simp only[XA];rcases acq r.toNat xs.length with z | z
 . rw[aaj z];exact YB (by rw[YJ];omega)
 . rw[aaN z,Ye z];simp
theorem o7(h:0<=r):oJ xs Wx (Wv r)=xs.take r.toNat:=by
 have e:r=((r.toNat)):=by omega
 unfold oJ;rw[e,HT.oX,HT.mG];simp only[XA,acT,adR];rcases acq r.toNat xs.length with z | z
 . rw[aaj z]
 . rw[aaN z,YB (WG _),YB z]
theorem Wg{ B:Prop}[Decidable c](hc: ¬ c)(h:B):if c then A else B:=by rw[if_neg hc];exact h
def VJ k (g:TG) (tt:TT) (te:TE) (σ :St) (Q:VK) (J:It) H1:= ∃ W:Nat->Nat->List V->Hp->Prop,(∃ m,W 0 m [] H1)/\ ∀ i m ys H,W i m ys H ->
 (J.stop i H/\ ∀ p,H p=Wx->Q (.ref p) (upd H p (.lst ys))) \/
 (J.go i H/\ys.length < WJ/\ ∀ x H',J.Kz i H x H'->g x (σ ++WO k Wx) H' fun σ2 H2=>tt σ2 H2 λb H3 =>
  if b=true then te σ2 H3 λy H4=> ∃ m',m' < m/\W (i+1) m' (ys++[y]) H4 else ∃ m',m' < m/\W (i+1) m' ys H3)
theorem CS{K:Wz}{a:W2}{xs:List V}{k:Nat}{g:TG}{tt:TT}{te:TE}[xA g][wX tt][wb te]{σ :St}{H:Hp}{Q:VK}(Pv:Nat->List V->Hp->Prop)(h0:Pv 0 [] H)(hl: ∀ i ys H,i<=xs.length->Pv i ys H->fw K H a xs/\ys.length<=i)(hz:xs.length<=WJ)
  (hs: ∀ i x ys H,xs[i]?=Wv x->Pv i ys H->g x (σ ++WO k Wx) H fun σ2 H2=>tt σ2 H2 λb H3=>if b=true then te σ2 H3 λy H4=>Pv (i+1) (ys++[y]) H4 else Pv (i+1) ys H3)
  (hd: ∀ ys H,Pv xs.length ys H-> ∀ p,H p=Wx->Q (.ref p) (upd H p (.lst ys))):VJ k g tt te σ Q (Dy K a) H:=Qv Pv h0 hl hz hs hd
class Va (trs:List (TE × TE)):Prop where
 m: ∀ σ H Q Q',(∀ ps H1,Q ps H1->Q' ps H1)->m5 trs σ H Q->m5 trs σ H Q'
theorem CP.Vg{K st}(F:CP K x x st f fd)(S:fU N ps (aD st))(len: ∀ vs H Q E,sp vs H Q E->vs.length=ps.length)
  (hbody: ∀ f cdv A outer s H vs Q E,dH k (A.deeper (abj x (aD st) s.heap.objs.size f cdv))->sp vs H Q E ->
   ∃ t,Dg (lQ wZ P w K mg base N x (aD st) f cdv A outer s H E).wq (bO st) t/\t { nx:=λ_ H'=>Q .non H',rt:=Q} (start N vs) H):lU P w K mg base wZ (k+1) f fd ps sp :=
 F.ok S len λcdv A outer s H vs Q E hr h=>by obtain⟨t,q,z⟩:=hbody f cdv A outer s H vs Q E hr h;exact⟨t,q.h,z⟩
theorem MH{K}(o:DJ H)(h:hW K H a xs):zS K H a xs:=by
 rcases h with(h | ⟨u,h⟩) | h
 . rcases o a with z | ⟨u,ys,z⟩<;>(rw[h] at z;cases z)
 . exact .inl ⟨u,h⟩
 . exact .inr h
def KD(P:Xy)(w:X0)(K:Wz) a (kvs:List (Key × V)):=(a == X9)=false /\
 ∃(o:Obj)(es:Array DictEntry)(ep:Nat)(vs:List (Key × WC)),K.lookup a=Wv o/\o.ExactDict/\o.data= .dict es ep/\aeH (aI P w) es/\Pairs (aI P w) es.toList vs/\(vs.map (·.1)).Nodup/\KV kvs vs
theorem Inv.kd{σ :St}(I:Inv X pins σ H s)(h:KD X.prog X.w X.K a kvs): ∃ vs,KV kvs vs/\s.heap.DictOf (aI X.prog X.w) a vs:=by
 obtain⟨_,o,es,ep,vs,h1,h2,h3,h4,h5,h6,h7⟩:=h;exact⟨vs,h7,o,es,ep,I.kL a o h1,h2,h3,h4,h5,h6⟩
def Li(kvs:List (Key × V))(ty:TE):TE:=fun σ H Q=>ty σ H λy H2=> ∃ k v,y=kV k/\iq kvs k=Wv v/\Q v H2
section
variable{X:Cx}{o i:XH}{pos:Pos}{ty:TE}{a:W2}{kvs:List (Key × V)}
theorem Hw(hk:KD X.prog X.w X.K a kvs)(ho:PE X o (tC (.ref a)))(hi:PE X i ty)(hs:Hm i):PE X (.Subscript o i pos) (Li kvs ty):=by
 intro pins s σ H Q I h;refine G9 abx.lookup hs (hV (ho pins s σ H (λx H1=>x= .ref a/\H1=H) I ⟨rfl,rfl⟩) λu s1 x H1 I1 rx ⟨ex,eH⟩=>?_);subst ex eH;obtain rfl:u=W6 a:=rx;refine hV (hi pins s1 σ H1 _ I1 h) λiv s2 y H2 I2 ry ⟨k,v,ey,l,q2⟩=>?_;subst ey;obtain⟨vs,rel,dd⟩:=I2.kd hk;obtain⟨w',hw,rw'⟩:=mJ.some_of (v:=v) (o:=acn vs k) (by rw[<- l];exact rel.val k);exact⟨dd.typeIs,wpAny_getItem_of (mC ry) dd.mapOf hw ⟨v,H2,I2.tok _,rw',q2⟩⟩
theorem HX(hk:KD X.prog X.w X.K a kvs)(ho:QE X o (tC (.ref a)))(hi:QE X i ty)(hs:Hm i):QE X (.Subscript o i pos) (Li kvs ty):=⟨Hw hk ho.h hi.h hs⟩
end
noncomputable def SD(w:X0)(p:Str × Tok × WC):DictEntry:={ hash:=Xg w.params p.1,key:= .str p.1 p.2.1,val:=p.2.2}
theorem RJ{K}{ls:List (Str × Tok × WC)}{kvs:List (Key × V)}(hl:K.lookup a=Wv { cls:= .type "dict",data:= .dict (ls.map (SD w)).toArray ep})(ha:(a == X9)=false)
  (hn:(ls.map λp=>(YQ p.1:Key)).Nodup) (hk:KV kvs (ls.map λp=>((YQ p.1),p.2.2))):KD P w K a kvs:=by
 refine⟨ha,_,_,ep,ls.map λp=>((YQ p.1),p.2.2),hl,⟨rfl,rfl,rfl⟩,rfl,?_,?_,by rw[XB];exact hn,hk⟩
 . intro e he;have he':=List.mem_toArray.mp he;obtain⟨p,_,rfl⟩:=Xk.mp he';exact⟨.inr p.1,nH p.1 p.2.1,rfl⟩
 . clear hl hn hk
   induction ls with
   | nil=>exact .nil
   | cons p r ih=>exact .cons (nH p.1 p.2.1) rfl ih
theorem vD: ∀{us},Vals (bs.map V.bl) us->LSm.BoolsAre us bs:=by
 induction bs with
 | nil=>intro us h;cases h;exact .nil
 | cons b r ih =>
  intro us h
  cases h with
  | cons hx ht =>
   cases(show _=aaL b from hx)
   exact .cons _ (ih ht)
theorem CM{s:WK}{h':X8}(hk: ∀ b x,b ∉ [s.heap.objs.size]->(s.heap.push o).get? b=Wv x->h'.get? b=Wv x): ∀ b x,s.heap.get? b=Wv x->h'.get? b=Wv x :=
 λb x e=>hk b x (by intro z;rw[Xq.mp z] at e;exact absurd (WN e) (Xt _)) (WB _ e)
section
variable{X:Cx}
def UJ(K:Wz):List V->Hp->VK->Prop:=λxs H Q=> ∃(p:W2)(bs:List Bool),xs=[.ref p]/\hW K H p (bs.map V.bl)/\Q (.bl (bs.all id)) H
theorem Hj(hc:X.calm=true):aS X (.builtin "all") (UJ X.K):=by
 intro pins s σ H xs us Q I r h;obtain⟨p,bs,rfl,hS,q⟩:=h;obtain⟨u,rfl,ru⟩:=vals1 r;cases(show u=W6 p from ru);obtain⟨ak,hv,pl,hz⟩:=I.list hS;have hl:=pl.isList;have hb:=vD hv;have hlt:p < s.heap.objs.size:=by obtain⟨_,e,_⟩:=hl;exact WN e
 refine call_all_walk (wpAny_pyIter_list (items:=ak.toArray) hl ?_);refine⟨s.heap.objs.size,[s.heap.objs.size,p],[s.heap.objs.size],ak.toArray.size,_,_,λi=>(bs[i]?).getD true,rfl,Walks.list (A:=X.A.in1) (I.ok.hd hc) _ p (W7 hlt) ak.toArray,⟨⟨_,WS _ rfl,rfl,rfl⟩,hl.push _⟩,?_,?_⟩
 . intro i v s' Q' E' hP hQ;obtain⟨b,e,rfl⟩:=hb.get i v (by simpa using hP);simp only[e] at hQ;exact Yx hQ
 . intro h' tk hk;rw[show((Xj ak.toArray.size).all λi=>(bs[i]?).getD true)=bs.all id by rw[WZ,hb.length];exact LSm.range_all bs];exact⟨.bl (bs.all id),H,I.kept (CM hk),rfl,q⟩
end
noncomputable def TN(x:Str):It:=⟨λi _=>i < x.cps.size,λi H v H'=>H'=H∧ ∃ c,x.cps[i]?=Wv c∧v= .str ⟨#[c]⟩,λi _=>i=x.cps.size⟩
theorem xn{K} x t it (hty:["enumerate", "zip", "dict_itemiterator", "dict_reverseitemiterator", "odict_iterator", "itertools.zip_longest", "itertools.pairwise"].contains ty=false)
  (W: ∀ A ,A.handled=Wx->Walks P w A it [it] [it] x.cps.size (SignAt x) (λi h=>h.IsStrIter it ty x t i)) (S: ∀ A i s Q E,s.heap.IsStrIter it ty x t i->Q (.ref it) s->W3 (W8 P w) A (adp (.ref it)) Q E s) :
  Turn P w K tg (TN x) [it] it (λi h=>h.IsStrIter it ty x t i) where
 mem:=by simp
 obj:=λi h st b hb=>by
  have e:b=it:=by simpa using hb
  subst e;obtain⟨o,e,c,d⟩:=st;exact⟨o,e,λv z=>by rw[d] at z;cases z⟩
 keep:=λi h h' st k=>by obtain⟨o,e,r⟩:=st;exact⟨o,k it (by simp) o e,r⟩
 item:=by
  intro X hP hw hK hc i pins s σ H E I hf st hg;subst hP hw hK;obtain⟨f0,f1,f2,f3,f4,f5⟩:=hf it (by simp);refine(W X.A (I.ok.hd hc)).item i s _ _ hg st λv h' tk hv st' hk=>?_;obtain⟨c,u,hx,rfl⟩:=hv;have I1:=I.turned (t':=tk) (λb o hb e=>hk b o (by simpa using hb) e) f0 f1 f3 f4 f5;obtain⟨o,e,cc,d⟩:=id st';exact⟨_,rfl,vQ (s:={ s with heap:=h',toks:=tk}) e cc d hty ⟨.str ⟨#[c]⟩,H,I1,⟨_,rfl⟩,⟨rfl,c,hx,rfl⟩,st',λb hb=>(hf b hb).1⟩⟩
 done:=by
  intro X hP hw hK hc i pins s σ H E I hf st hg;subst hP hw hK;obtain⟨f0,f1,f2,f3,f4,f5⟩:=hf it (by simp);have hi:=hg;subst hi;exact(W X.A (I.ok.hd hc)).done s _ _ st λh' tk hk=>⟨rfl,I.turned (t':=tk) (λb o hb e=>hk b o (by simpa using hb) e) f0 f1 f3 f4 f5⟩
 self:=λA i s Q E st h=>S A i s Q E st h
theorem gL{x:Str}{k:Nat}{g:TG}{tt:TT}{te:TE}[xA g][wX tt][wb te]{σ :St}{H:Hp}{Q:VK}(Pv:Nat->List V->Hp->Prop)(h0:Pv 0 [] H)(hl: ∀ i ys H,i<=x.cps.size->Pv i ys H->ys.length<=i)(hz:x.cps.size<=WJ)
  (hs: ∀ i c ys H,x.cps[i]?=Wv c->Pv i ys H->g (.str ⟨#[c]⟩) (σ ++WO k Wx) H fun σ2 H2=>tt σ2 H2 λb H3=>if b=true then te σ2 H3 λy H4=>Pv (i+1) (ys++[y]) H4 else Pv (i+1) ys H3)
  (hd: ∀ ys H,Pv x.cps.size ys H-> ∀ p,H p=Wx->Q (.ref p) (upd H p (.lst ys))):VJ k g tt te σ Q (TN x) H:=by
 refine⟨λi m ys H=>m=x.cps.size - i/\i<=x.cps.size/\Pv i ys H,⟨x.cps.size,by simp,Xv _,h0⟩,?_⟩;rintro i m ys H ⟨rfl,hi,p⟩;have hy:=hl i ys H hi p;by_cases hlt:i < x.cps.size
 . refine .inr ⟨hlt,by omega,λv H' y=>?_⟩;obtain⟨e,c,hc,rfl⟩:=y;subst e;refine xA.m (g:=g) _ _ _ _ _ (fun σ2 H2 z=>wX.m (t:=tt) _ _ _ _ (λb H3 z=>?_) z) (hs i c ys _ hc p);cases b with
   | true =>
    exact wb.m (t:=te) _ _ _ _ (λv H4 w=>⟨x.cps.size - (i+1),by omega,rfl,hlt,w⟩) z
   | false =>
    exact⟨x.cps.size - (i+1),by omega,rfl,hlt,z⟩
 . have e:i=x.cps.size:=by omega
   subst e;exact .inl ⟨rfl,hd ys H p⟩
theorem AB(hg:Gl X x)(hm:X.mg x=Wv (.ref a))(hd:(x == ("__debug__"))=false:=by decide):QE X (.Name x pos) (tC (.ref a)):=⟨As hg hm rfl hd⟩
theorem sH l o b u :
  aei (Zx.«dict.__eq__» ⟨[.ref l,.str b u],[]⟩) (λ_ R s=>s.heap.get? l=Wv o/\R (.ok (.ret .notImplemented)) s) :=
 .of_wp λprog w A R s h=>by
  obtain⟨hl,h⟩:=h;have f1:=acU;wp_walk;exact⟨_,rfl,h⟩
theorem ua b u l c es ep dd sl :
  aei (Zx.«str.__eq__» ⟨[.str b u,.ref l],[]⟩) (λ_ R s=>s.heap.get? l=Wv { cls:=c,dict:=dd,data:= .dict es ep,slots:=sl}/\R (.ok (.ret .notImplemented)) s) :=
 .of_wp λprog w A R s h=>by obtain⟨hl,h⟩:=h;wp_walk using X5 hl,ZO hl;exact⟨_,rfl,h⟩
theorem xC b u (hl:s.heap.get? l=Wv o) (hx:o.ExactDict) (hd:o.data= .dict es ep) (hu:A.units < ZV):SeqAt.RcAt A s (.ref l) (.str b u) false:=λprog w E Q h=>by
 obtain⟨cls,dd,data,sl⟩:=o;have hc:=hx.1;subst hc hd;exact SeqAt.rc_eq_decline_or (k:=false) ⟨_,hl,rfl⟩ (adt s b u) (by decide) acU acV abP
  (λ_ hq=>YV acV ⟨_,hl,rfl⟩ PySem.F.entry_dict_eq (PySem.F.args_dict_eq_2 _ _) (sH l _ b u) ⟨hl,hq⟩)
  (λ_ hq=>YV abP (adt s b u) PySem.F.entry_str_eq (PySem.F.args_str_eq_2 _ _) (ua b u l (.type "dict") es ep dd sl) ⟨hl,hq⟩)
  (λ_ z=>wpAny_of_eq (show isSame (.ref l) (.str b u)=pure false from rfl) z) (.inr hu) h
noncomputable def Qr(K:Wz):R2:=λx y H Q=> ∃ p z,x= .ref p/\y= .str z/\((∃ xs,hW K H p xs)\/(∃ xs,fw K H p xs)\/ ∃ kvs,H p=Wv (.dK kvs))/\Q (.bl false) H
def S6(K:Wz):V->Option Int->Option Int->Hp->VK->Prop:=λx lo hi H Q=> ∃ a xs,x= .ref a/\fw K H a xs/\(HT.dq xs.length 0 lo=0/\HT.dq xs.length xs.length hi=xs.length)/\Q (.ref a) H
noncomputable def K7(K:Wz):R2:=λx y H Q=> ∃ a b ys,x= .ref a/\y= .ref b/\fw K H a []/\fw K H b ys/\Q (.ref b) H
noncomputable def Lc:R2:=λx y H Q=> ∃ a b,x= .str a/\y= .str b/\a.length+b.length<=WJ/\Q (.str (a++b)) H
theorem nu:fillsNumberSlot (.type "tuple") "mul" =pure false :=
 PySem.fillsNumberSlot_seq (id:= "tuple.__mul__") (r:=Wv (.builtin "tuple.__rmul__")) YZ.lookup (by decide +kernel) ab7.lookup (by decide +kernel)
theorem uw:seqRepeat? (.type "tuple")=pure (Wv (.builtin "tuple.__mul__")):=by
 unfold seqRepeat?;rw[ad6 (T:= "tuple") (name:= "__mul__") (id:= "tuple.__mul__") YZ.lookup (by decide +kernel),ad6 (T:= "tuple") (name:= "__rmul__") (id:= "tuple.__rmul__") ab7.lookup (by decide +kernel)];rfl
theorem qE a t l items n dd sl :
  aei (Zx.«int.__rmul__» ⟨[.int a t,.ref l],[]⟩) (λ_ R s=>s.heap.get? l=Wv { cls:= .type "tuple",dict:=dd,data:= .seq items n,slots:=sl}/\R (.ok (.ret Value.notImplemented)) s) :=
 .of_wp λprog w A R s h=>by obtain⟨hl,h⟩:=h;wp_walk using X5 hl,ZO hl;exact⟨_,rfl,h⟩
theorem si{prog:Xy}{w:X0}{A:Yk}{E:WC->WK->Prop}{s:WK}{t sl:W2}{items:Array WC}{vl vu:WC}{lo hi:Option Int}{Q:WC->WK->Prop}(ht:IsTup s.heap t items)(hs:s.heap.IsSliceOf sl vl vu .none)(pl:acg vl lo)(pu:acg vu hi)
  (hw:HT.dq items.size 0 lo=0/\HT.dq items.size items.size hi=items.size) (h:Q (.ref t) s):W3 (W8 prog w) A (aaQ (.ref t) (.ref sl)) Q E s:=by
 obtain⟨os,hos,hcs,hds⟩:=id hs;have hTs:s.TypeIs (.ref sl) "slice" :=⟨os,hos,hcs⟩
 unfold aaQ
 try with_reducible refine XQ ?_
 refine Ww (wpAny_sequenceKey ht.typeIs (by decide) ?_);refine Ww (XU (name:=WU "__getitem__") ht.typeIs XN
  (Yd XN ht.typeIs ac7 ?_ (ads _ _)))
 show W3 _ _ (abk (.ref t) >>= _) _ _ s;refine Ww (tupleItemsOf_ ht ?_);refine Ww (Zt hTs ?_);refine Ww (HT.ic hs pl pu ?_);show W3 _ _ (if (((HT.dq items.size 0 lo):Int) == 0&&(1) == 1&&(HT.dq items.size items.size hi - HT.dq items.size 0 lo) == items.size)=true then _ else _) _ _ s;rw[if_pos (by rw[hw.1,hw.2];simp)];refine Ww (m:=Builtin.Tuple.tupleIsExact _) (Ww (Zt ht.typeIs (WI ?_)));exact Ww (abm (WI ⟨_,rfl,WI h⟩))
section
variable{X:Cx}
theorem Ic(hu:X.A.units < ZV):cZ X (Xh .Eq) (Qr X.K):=by
 intro pins s σ H x y v u Q I rx ry h;obtain⟨p,z,rfl,rfl,hp,hQ⟩:=h;cases(show v=W6 p from rx);obtain⟨t,rfl⟩:=ry;have fin:EP X pins σ Q (.bool false) s:=⟨.bl false,H,I,rfl,hQ⟩
 rcases hp with⟨xs,hp⟩ | ⟨xs,hp⟩ | ⟨kvs,hp⟩
 . obtain⟨ak,hv,pl,hz⟩:=I.list hp;exact SeqAt.RcAt.list_str z t pl.isList hu _ _ _ _ fin
 . obtain⟨ak,hv,pl,hz⟩:=I.tuple hp;exact SeqAt.RcAt.tuple_str z t pl hu _ _ _ _ fin
 . obtain⟨_,_,vs,_,o,es,ep,e,hx,hd,_⟩:=wa I.bA hp;exact xC z t e hx hd hu _ _ _ _ fin
theorem IV:Gn X (S6 X.K):=by
 intro pins s σ H x v vl vu lo hi sl Q I rx hs pl pu h;obtain⟨a,xs,rfl,hx,hw,q⟩:=h;cases rx;obtain⟨ak,r,ht,hz⟩:=I.tuple hx;have hlen:ak.toArray.size=xs.length:=by exact r.length.symm
 refine⟨"tuple",_,XN.lookup,ht.typeIs,?_⟩;exact si ht hs pl pu (by rw[hlen];exact hw) ⟨.ref a,H,I,rfl,q⟩
theorem IQ:cZ X (Yg .Add) (K7 X.K):=by
 intro pins s σ H x y v u Q I rx ry h;obtain⟨a,b,ys,rfl,rfl,ha,hb,q⟩:=h;cases(show v=W6 a from rx);cases(show u=W6 b from ry);obtain⟨ak,r1,p1,_⟩:=I.tuple ha;obtain⟨its2,r2,p2,_⟩:=I.tuple hb;have e1:ak=[]:=by cases r1;rfl
 subst e1;obtain⟨⟨cls,dd,data,sl⟩,ho,hc,n,hd⟩:=id p1;obtain⟨⟨cls2,dd2,data2,sl2⟩,ho2,hc2,n2,hd2⟩:=id p2;simp only at hc hd hc2 hd2;subst hc hd hc2 hd2;exact adG ⟨_,ho,rfl⟩ ⟨_,ho2,rfl⟩ ab1 adj aay aap (aaa _ _)
  (tuple_addW0 a b _ _ n n2 dd dd2 sl sl2 rfl) ⟨ho,ho2,⟨.ref b,H,I,rfl,q⟩⟩
theorem GB:cZ X (Yg .Add) Lc:=by
 intro pins s σ H x y v u Q I rx ry h;obtain⟨a,b,rfl,rfl,hz,q⟩:=h;obtain⟨t,rfl⟩:=rx;obtain⟨t',rfl⟩:=ry;exact PyProof.Rows.add_str (λt' tk=>⟨.str (a++b),H,I.tok _,⟨_,rfl⟩,q⟩) hz
theorem O0:cZ X (Yg .Add) (λx y H Q=>(Gg λi j=> .int (i+j)) x y H Q\/(RN x y H Q\/(KW X.K x y H Q\/(K7 X.K x y H Q\/Lc x y H Q)))):=OX.or (PK.or (JM.or (IQ.or GB)))
theorem Ws:Gn X (λx lo hi H Q=>Q2 X.K x lo hi H Q\/(SQ X.K x lo hi H Q\/S6 X.K x lo hi H Q)):=Hk.or (Of.or IV)
end
noncomputable def zY{α}(c:Nat->Nat->Bool):KasT α -> α
 | .ret a=>a
 | .ask i j k=>zY c (k (c i j))
noncomputable def DO{α}(n:Nat)(c:Nat->Nat->Bool):KasT α ->Bool
 | .ret _=>true
 | .ask i j k=>decide (i < n)&&decide (j < n)&& !decide (i=j)&&DO n c (k (c i j))
theorem xj{α :Type}{cmp:Nat->Nat->(Bool->WK->Prop)->WK->Prop}{n:Nat}{c:Nat->Nat->Bool}{s:WK}(hc: ∀ i j C,i < n->j < n->i≠j->C (c i j) s->cmp i j C s){Q: α ->WK->Prop} :
  ∀ t:KasT α,DO n c t=true->Q (zY c t) s->t.kasWp cmp Q s
 | .ret a,_,q=>q
 | .ask i j k,h,q=>by
  simp only[DO,WX,decide_eq_true_eq,YC,decide_eq_false_iff_not] at h;exact hc i j _ h.1.1.1 h.1.1.2 h.1.2 (xj hc (k (c i j)) h.2 q)
def hZ{α} n (c:Nat->Nat->Bool) (t:KasT α) (Q: α ->Prop):=DO n c t=true/\Q (zY c t)
theorem hZ.ret{α :Type}{n:Nat}{c:Nat->Nat->Bool}{a: α}{Q: α ->Prop}(h:Q a):hZ n c (.ret a) Q:=⟨rfl,h⟩
theorem hZ.ask{α :Type}{n:Nat}{c:Nat->Nat->Bool}{i j:Nat}{k:Bool->KasT α}{Q: α ->Prop}(hi:i < n)(hj:j < n)(hij:i≠j)(h:hZ n c (k (c i j)) Q):hZ n c (.ask i j k) Q :=
 ⟨by simp only[DO,hi,hj,hij,h.1,decide_true,decide_false,Bool.not_false,aac],h.2⟩
theorem hZ.bind: ∀{t},hZ n c t (λa=>hZ n c (f a) Q)->hZ n c (t.bind f) Q
 | .ret a,h=>h.2
 | .ask i j k,h=>by
  have e:=h.1;simp only[DO,WX,decide_eq_true_eq,YC,decide_eq_false_iff_not] at e;exact hZ.ask e.1.1.1 e.1.1.2 e.1.2 (hZ.bind (t:=k (c i j)) ⟨e.2,h.2⟩)
theorem hZ.mono(h:hZ n c t Q)(f: ∀ a,Q a->Q' a):hZ n c t Q':=⟨h.1,f _ h.2⟩
structure gO(n:Nat)(p:Array Nat):Prop where
 perm:p.toList.Perm (Xj n)
theorem gO.size(h:gO n p):p.size=n:=by simpa using h.perm.length_eq
theorem gO.lt(h:gO n p)(hi:i < n):p.getD i 0 < n:=by
 have hi':=h.size ▸ hi;have:p.getD i 0∈p.toList:=by
  rw[Xw,XR hi'];exact Array.getElem_mem_toList hi'
 exact YR.mp (h.perm.mem_iff.mp this)
theorem gO.ne(h:gO n p)(hi:i < n)(hj:j < n)(hij:i≠j):p.getD i 0≠p.getD j 0:=λe=>by
 have hi':=h.size ▸ hi;have hj':=h.size ▸ hj;have nd:=h.perm.nodup_iff.mpr List.nodup_range;rw[Xw,Xw,XR hi',XR hj'] at e;exact hij ((abE (by simpa using hi') nd).mp (by rw[ZK,ZK,XR hi',XR hj'];exact congrArg Wv e))
theorem gO.of(h:gO n p)(pm:q.Perm p):gO n q:=⟨(Array.perm_iff_toList_perm.mp pm).trans h.perm⟩
theorem yw n:gO n (List.toArray (Xj n)):=⟨aey _⟩
section
variable{n:Nat}{r:Nat->Nat}
noncomputable def rk(r:Nat->Nat)(p:Array Nat) i:=r (p.getD i 0)
def rN(r:Nat->Nat)(p:Array Nat) k:= ∀ i j,i < j->j < k->rk r p i < rk r p j
def p8(r:Nat->Nat)(p:Array Nat) k:= ∀ i j,i < j->j < k->rk r p j < rk r p i
noncomputable def cN(r:Nat->Nat) i j:=decide (r i < r j)
def t9 n (r:Nat->Nat):= ∀ i j,i < n->j < n->r i=r j->i=j
theorem Fc(hr:t9 n r)(h:gO n p)(hi:i < n)(hj:j < n)(hij:i≠j):rk r p i≠rk r p j:=λe=>h.ne hi hj hij (hr _ _ (h.lt hi) (h.lt hj) e)
theorem Jl(h:rN r p k)(hk:1<=k)(x:rk r p (k - 1) < rk r p k):rN r p (k+1):=λi j hij hj=>by
 rcases Y0 j k with c | c
 . exact h i j hij c
 . have:j=k:=by omega
   subst this;rcases Y0 i (j - 1) with d | d
   . exact ZT (h i (j - 1) d (by omega)) x
   . have:i=j - 1:=by omega
     subst this;exact x
theorem s9(h:p8 r p k)(hk:1<=k)(x:rk r p k < rk r p (k - 1)):p8 r p (k+1):=λi j hij hj=>by
 rcases Y0 j k with c | c
 . exact h i j hij c
 . have:j=k:=by omega
   subst this;rcases Y0 i (j - 1) with d | d
   . exact ZT x (h i (j - 1) d (by omega))
   . have:i=j - 1:=by omega
     subst this;exact x
theorem yX(hr:t9 n r)(h:gO n p): ∀ f m,1<=m->m+f<=n->rN r p m ->
  hZ n (cN r) (kas_asc p f m) λm'=>m<=m'/\m'<=m+f/\rN r p m'/\(m' < m+f->rk r p m' < rk r p (m' - 1))
 | 0,m,h1,hm,u=>hZ.ret ⟨WG _,WG _,u,λx=>absurd x (Xt _)⟩
 | f+1,m,h1,hm,u=>by
  refine hZ.ask (h.lt (by omega)) (h.lt (by omega)) (h.ne (by omega) (by omega) (by omega)) ?_;have ne:=Fc hr h (i:=m) (j:=m - 1) (by omega) (by omega) (by omega);by_cases c:rk r p m < rk r p (m - 1)
  . have e:cN r (p.getD m 0) (p.getD (m - 1) 0)=true:=decide_eq_true c;rw[e];exact hZ.ret ⟨WG _,by omega,u,λ_=>c⟩
  . have e:cN r (p.getD m 0) (p.getD (m - 1) 0)=false:=decide_eq_false c;rw[e];refine(yX hr h f (m+1) (by omega) (by omega) (Jl u h1 (by omega))).mono λm' x=>⟨by omega,by omega,x.2.2.1,λy=>x.2.2.2 (by omega)⟩
theorem AN(hr:t9 n r)(h:gO n p): ∀ f m,1<=m->m+f<=n->p8 r p m ->
  hZ n (cN r) (kas_desc f p m 0) λt=>t.1=p/\t.2.2=0/\m<=t.2.1/\t.2.1<=m+f/\p8 r p t.2.1
 | 0,m,h1,hm,u=>hZ.ret ⟨rfl,rfl,WG _,WG _,u⟩
 | f+1,m,h1,hm,u=>by
  refine hZ.ask (h.lt (by omega)) (h.lt (by omega)) (h.ne (by omega) (by omega) (by omega)) ?_;have ne:=Fc hr h (i:=m) (j:=m - 1) (by omega) (by omega) (by omega);by_cases c:rk r p m < rk r p (m - 1)
  . have e:cN r (p.getD m 0) (p.getD (m - 1) 0)=true:=decide_eq_true c;rw[e,if_pos rfl];refine(AN hr h f (m+1) (by omega) (by omega) (s9 u h1 c)).mono λt x=>⟨x.1,x.2.1,by omega,by omega,x.2.2.2.2⟩
  . have e:cN r (p.getD m 0) (p.getD (m - 1) 0)=false:=decide_eq_false c;rw[e];refine hZ.ask (h.lt (by omega)) (h.lt (by omega)) (h.ne (by omega) (by omega) (by omega)) ?_;have e2:cN r (p.getD (m - 1) 0) (p.getD m 0)=true:=decide_eq_true (show rk r p (m - 1) < rk r p m by omega);rw[e2];exact hZ.ret ⟨rfl,rfl,WG _,Nat.le_add_right _ _,u⟩
theorem Ej(hm:m<=p.size) k:rk r (kas_rev p 0 m) k=if k < m then rk r p (m - 1 - k) else rk r p k:=by
 unfold rk kas_rev;rw[Xw,getElem?_mirror_all hm];by_cases c:k < m
 . rw[if_pos ⟨Xv _,c⟩,if_pos c,Xw,Nat.zero_add]
 . rw[if_neg (λx=>c x.2),if_neg c,Xw]
theorem FZ(hr:t9 n r)(h:gO n p)(h1:1<=m)(hm:m<=n)(u:p8 r p m):hZ n (cN r) (kas_tail3 m n p) λt=>gO n t.2/\1<=t.1/\t.1<=n/\rN r t.2 t.1:=by
 have h':gO n (kas_rev p 0 m):=h.of (mirror_perm _ _ _ _);refine hZ.bind ((yX hr h' (n - m) m h1 (by omega) λi j hij hj=>?_).mono λm' x=>hZ.ret ⟨h',by omega,by omega,x.2.2.1⟩);rw[Ej (by rw[h.size];exact hm),Ej (by rw[h.size];exact hm),if_pos (by omega),if_pos hj];exact u _ _ (by omega) (by omega)
theorem Ee(hr:t9 n r)(h:gO n p)(h1:1<=n):hZ n (cN r) (kas_count n p) λt=>gO n t.2/\1<=t.1/\t.1<=n/\rN r t.2 t.1:=by
 refine hZ.bind ((yX hr h (n - 1) 1 (WG _) (by omega) λi j hij hj=>by omega).mono λm x=>?_);obtain⟨x1,x2,x3,x4⟩:=x;by_cases c:m=n
 . rw[if_pos (by simpa using c)];exact hZ.ret ⟨h,x1,by omega,x3⟩
 . rw[if_neg (by simpa using c)];by_cases c2:m > 1
   . rw[if_pos c2];refine hZ.ask (h.lt (by omega)) (h.lt (by omega)) (h.ne (by omega) (by omega) (by omega)) ?_;have e2:cN r (p.getD 0 0) (p.getD (m - 1) 0)=true:=decide_eq_true (x3 0 (m - 1) (by omega) (by omega));rw[e2];exact hZ.ret ⟨h,x1,by omega,x3⟩
   . have:m=1:=by omega
     subst this;refine hZ.bind ((AN hr h (n - (1+1)) (1+1) (by omega) (by omega) (s9 (λi j hij hj=>by omega) (WG _) (x4 (by omega)))).mono λt y=>?_);obtain⟨y1,y2,y3,y4,y5⟩:=y;rw[if_neg (by omega),y1];exact FZ hr h (by omega) (by omega) y5
theorem pF(hr:t9 n r)(h:gO n p)(hk:k < n)(u:rN r p k): ∀ f l m,l<=m->m<=k->m - l<=f->(∀ i,i < l->rk r p i < rk r p k)->(∀ i,m<=i->i < k->rk r p k < rk r p i) ->
  hZ n (cN r) (kas_place p k f l m) λt=>t<=k/\(∀ i,i < t->rk r p i < rk r p k)/\(∀ i,t<=i->i < k->rk r p k < rk r p i)
 | 0,l,m,h1,h2,h3,a,b=>hZ.ret ⟨by omega,a,λi hi hik=>b i (by omega) hik⟩
 | f+1,l,m,h1,h2,h3,a,b=>by
  unfold kas_place;by_cases c:l ≥ m
  . rw[if_pos c];exact hZ.ret ⟨by omega,a,λi hi hik=>b i (by omega) hik⟩
  . rw[if_neg c];refine hZ.ask (h.lt (by omega)) (h.lt (by omega)) (h.ne (by omega) (by omega) (by omega)) ?_;have ne:=Fc hr h (i:=k) (j:=(l+m) / 2) (by omega) (by omega) (by omega);by_cases d:rk r p k < rk r p ((l+m) / 2)
    . have e:cN r (p.getD k 0) (p.getD ((l+m) / 2) 0)=true:=decide_eq_true d;rw[e];refine pF hr h hk u f l ((l+m) / 2) (by omega) (by omega) (by omega) a λi hi hik=>?_;rcases Y0 ((l+m) / 2) i with z | z
      . exact ZT d (u _ _ z hik)
      . have:i=(l+m) / 2:=by omega
        rw[this];exact d
    . have e:cN r (p.getD k 0) (p.getD ((l+m) / 2) 0)=false:=decide_eq_false d;rw[e];refine pF hr h hk u f ((l+m) / 2+1) m (by omega) (by omega) (by omega) (λi hi=>?_) b;have d':rk r p ((l+m) / 2) < rk r p k:=by omega
      rcases Y0 i ((l+m) / 2) with z | z
      . exact ZT (u _ _ z (by omega)) d'
      . have:i=(l+m) / 2:=by omega
        rw[this];exact d'
theorem tN(hk:k < p.size)(hd:d<=k) i:rk r (bubble p k d) i=if i=k - d then rk r p k else if k - d < i/\i<=k then rk r p (i - 1) else rk r p i:=by
 have g: ∀(q:Array Nat)(j:Nat),rk r q j=r (q[j]?.getD 0):=λq j=>by unfold rk;rw[Xw]
 rw[g,g,g,g,getElem?_bubble hk d hd]
 repeat' split
 all_goals rfl
theorem EB(hr:t9 n r): ∀ f p k,gO n p->k+f=n->rN r p k->hZ n (cN r) (kas_bin f p k) λq=>gO n q/\rN r q n
 | 0,p,k,h,e,u=>hZ.ret ⟨h,(show k=n from e) ▸ u⟩
 | f+1,p,k,h,e,u=>by
  refine hZ.bind ((pF hr h (by omega) u k 0 k (by omega) (by omega) (by omega) (λi hi=>by omega) (λi h1 h2=>by omega)).mono λl x=>?_);obtain⟨x1,x2,x3⟩:=x;refine EB hr f _ (k+1) (h.of (bubble_perm _ _ _)) (by omega) λi j hij hj=>?_;have hs:k < p.size:=by rw[h.size];omega
  rw[tN hs (by omega),tN hs (by omega)]
  repeat' split
  all_goals first | (exfalso;omega) | exact u _ _ (by omega) (by omega) | exact x2 _ (by omega) | exact x3 _ (by omega) (by omega)
theorem GR(hr:t9 n r)(h1:1<=n):hZ n (cN r) (ZE n) λq=>gO n q/\rN r q n:=by
 refine hZ.bind ((Ee hr (yw n) h1).mono λt x=>?_);obtain⟨x1,x2,x3,x4⟩:=x;by_cases c:t.1 < n
 . rw[if_pos c];have:max t.1 1=t.1:=by omega
   rw[this];exact EB hr _ _ _ x1 (by omega) x4
 . rw[if_neg c];have:t.1=n:=by omega
   exact hZ.ret ⟨x1,this ▸ x4⟩
end
theorem xu(h: ∀ i j,i < n->j < n->c i j=c' i j): ∀ t:KasT α,DO n c' t=true->DO n c t=true/\zY c t=zY c' t
 | .ret a,_=>⟨rfl,rfl⟩
 | .ask i j k,e=>by
  simp only[DO,WX,decide_eq_true_eq,YC,decide_eq_false_iff_not] at e;have hc:=h i j e.1.1.1 e.1.1.2;have:=xu h (k (c' i j)) e.2;simp only[DO,zY,WX,decide_eq_true_eq,YC,decide_eq_false_iff_not];rw[hc];exact⟨⟨e.1,this.1⟩,this.2⟩
def jU(a b:Str):=a.cps.toList < b.cps.toList
instance (a b:Str):Decidable (jU a b):=inferInstanceAs (Decidable (a.cps.toList < b.cps.toList))
theorem kM a: ¬ jU a a:=List.lt_irrefl _
theorem jS(h1:jU a b)(h2:jU b c):jU a c:=List.lt_trans h1 h2
theorem sM(h:jU a b): ¬ jU b a:=λz=>kM a (jS h z)
theorem Jo{ b:Str}(h:a.cps.toList=b.cps.toList):a=b:=by
 cases a;simp only at h;rw[ad7.mp h]
theorem nj(h:a≠b):jU a b\/jU b a:=by
 by_cases h1:jU a b
 . exact .inl h1
 . by_cases h2:jU b a
   . exact .inr h2
   . exact absurd (Jo (List.le_antisymm (List.not_lt.mp h2) (List.not_lt.mp h1))) h
noncomputable def mD(xs:List Str) x:=(xs.filter λy=>decide (jU y x)).length
theorem sV(hx:x∈xs)(h:jU x y):mD xs x < mD xs y:=by
 unfold mD;have sub: ∀ l:List Str,(l.filter λz=>decide (jU z x)).length<=(l.filter λz=>decide (jU z y)).length:=λl=>by
  induction l with
  | nil=>exact WG _
  | cons z r ih =>
   by_cases h1:jU z x
   . rw[Xm (by simpa using h1),Xm (by simpa using jS h1 h)];simpa using ih
   . rw[XC (by simpa using h1)];by_cases h2:jU z y
     . rw[Xm (by simpa using h2)];exact Zd ih
     . rw[XC (by simpa using h2)];exact ih
 induction xs with
 | nil=>cases hx
 | cons z r ih =>
  rcases WM.mp hx with rfl | hr
  . rw[XC (by simpa using kM x),Xm (by simpa using h)];exact adL (sub r)
  . by_cases h1:jU z x
    . rw[Xm (by simpa using h1),Xm (by simpa using jS h1 h)];simpa using ih hr
    . rw[XC (by simpa using h1)];by_cases h2:jU z y
      . rw[Xm (by simpa using h2)];exact Zb (ih hr)
      . rw[XC (by simpa using h2)];exact ih hr
theorem Fj(hx:x∈xs)(hy:y∈xs):mD xs x < mD xs y↔jU x y:=by
 refine⟨λh=>?_,sV hx⟩;by_cases e:x=y
 . subst e;exact absurd h (Xt _)
 . rcases nj e with z | z
   . exact z
   . exact absurd (sV hy z) (Nat.lt_asymm h)
noncomputable def cS(xs:List Str) i j:=decide (jU (xs.getD i "") (xs.getD j ""))
theorem getD_mem{xs:List Str}(h:i < xs.length):xs.getD i "" ∈xs:=by
 rw[XW,WD h];exact YM h
theorem vx(h1:1<=xs.length)(nd:xs.Nodup) :
  DO xs.length (cS xs) (ZE xs.length)=true/\(zY (cS xs) (ZE xs.length)).toList.Perm (Xj xs.length)/\((zY (cS xs) (ZE xs.length)).toList.map λi=>xs.getD i "").Pairwise jU:=by
 have rkI: ∀ i j,i < xs.length->j < xs.length->(mD xs (xs.getD i "") < mD xs (xs.getD j "")↔jU (xs.getD i "") (xs.getD j "")):=λi j hi hj=>Fj (getD_mem hi) (getD_mem hj);have hr:t9 xs.length λi=>mD xs (xs.getD i ""):=λi j hi hj e=>by
  have a:=rkI i j hi hj;have b:=rkI j i hj hi;have e':=Decidable.byContradiction λne=>by
   rcases nj ne with z | z
   . have:=a.mpr z;simp only at e;omega
   . have:=b.mpr z;simp only at e;omega
  rw[XW,XW,WD hi,WD hj] at e';exact(abE hi nd).mp (by rw[WD hi,WD hj];exact congrArg Wv e')
 have ok:=GR hr h1;have al: ∀ i j,i < xs.length->j < xs.length->cS xs i j=cN (λi=>mD xs (xs.getD i "")) i j:=λi j hi hj=>by
  unfold cS cN;rw[decide_eq_decide];exact(rkI i j hi hj).symm
 have ea:=xu al (ZE xs.length) ok.1;rw[ea.2];have sh:=ok.2.1;refine⟨ea.1,sh.perm,?_⟩;rw[aaA,List.pairwise_iff_getElem];intro i j hi hj hij;have hj':j < xs.length:=by rw[<- sh.size];simpa using hj
 have:=ok.2.2 i j hij hj';have:=(rkI _ _ (sh.lt (by omega)) (sh.lt hj')).mp this;rw[Xw,Xw,XR (by simpa using hi),XR (by simpa using hj)] at this;simpa using this
section
variable{prog:Xy}{w:X0}{A:Yk}{E:WC->WK->Prop}{s:WK}
noncomputable def dh(h:X8) a (vs:List WC):=((h.update a (X4 λ_=>(#[]))).push (Zw "tuple" vs.toArray 0)).push (Zw "list" #[] 0)
theorem pI(hb:b < h.objs.size):(dh h a vs).get? b=(h.update a (X4 λ_=>(#[]))).get? b :=
 (aaB _ _ _ (W7 (abn (Zb hb) ((size_push' _ _).trans (congrArg (· +1) (aaO _ _ _))).symm))).trans
  (aaB _ _ _ (W7 (abn hb (aaO _ _ _).symm)))
theorem wU(hb:b≠a)(e:h.get? b=Wv o):(dh h a vs).get? b=Wv o :=
 (pI (WN e)).trans ((ac8 _ _ _ _ hb).trans e)
theorem mW{vs:List WC}(h:vs.length < 64):vs.length<=WJ:=Xb (YY h) (by decide)
theorem rQ{a:W2}{vs:List WC}{n:Nat}{P:aeC->WK->Prop}{κ :adS}{G:Array Nat->Prop}(ho:s.heap.get? a=Wv (Zw "list" vs.toArray n))(h64:vs.length < 64)
  (hk:2<=vs.length-> ∀ Q':adS->WK->Prop,Q' κ { s with heap:=dh s.heap a vs}->W3 (W8 prog w) A (keyKind' vs.toArray) Q' E { s with heap:=dh s.heap a vs})
  (ha:2<=vs.length-> ∀ Q':Array Nat->WK->Prop,(∀ p,G p->Q' p { s with heap:=dh s.heap a vs})->(ZE vs.length).kasWp (kas_ask prog w A κ vs) Q' { s with heap:=dh s.heap a vs})
  (h0:vs.length < 2->P (.done (.ret .none)) { s with heap:=acp s.heap a vs vs.toArray})
  (h: ∀ p:Array Nat,p.size=vs.length->G p->P (.done (.ret .none)) { s with heap:=acp s.heap a vs (p.toList.map λi=>vs.getD i YI).toArray}):W3 (W8 prog w) A (Zx.«list.sort» ⟨[.ref a],[]⟩) P E s:=by
 obtain⟨ep,g1⟩: ∃ k,(s.heap.update a (X4 λ_=>(#[]))).get? a=Wv (Zw "list" #[] k):=⟨_,get?_update_seq ho λ_=> #[]⟩
 have g2:(dh s.heap a vs).get? a=Wv (Zw "list" #[] ep):=(pI (WN ho)).trans g1;have z:=WZ (as:=vs);rw[list_sort_plain];refine Ww (adT ho rfl (Ww (abQ ho rfl (Ww (aej g1 rfl (Ww (acW (Ww (aaS (XQ ?_) (Xv _))) (mW h64))))) (z ▸ mW h64) (Xv _))));show W3 (W8 prog w) A _ P E { s with heap:=dh s.heap a vs};dsimp only;have last: ∀ out:Array WC,out.size<=WJ->P (.done (.ret .none)) { s with heap:=acp s.heap a vs out}->P (.done (.ret .none)) { s with heap:=(dh s.heap a vs).update a (X4 λ_=>out)}:=λ_ _ q=>q;rcases Y0 vs.toArray.size 2 with c | c
 . rw[if_pos c,if_pos c];have e:(arrOf (SortSt.mk' general' (vs.toArray.zip vs.toArray) #[] 7 Wx)).map (·.2)=vs.toArray:=by
    apply ad7.mp;rw[Array.toList_map,Array.toList_zip];exact List.map_snd_zip (WG _)
   refine Ww (m:=pure general') (WI ?_);refine Ww (WI (Ww (aej g2 rfl (Ww (abQ g2 rfl ?_ (Xv _) (hsz2:=by rw[e,z];exact Zd (mW h64)))))));rw[if_neg (by simp)];refine WI ?_;rw[e];exact last _ (by rw[z];exact mW h64) (h0 (z ▸ c))
 . rw[if_neg (adx.mpr c),if_neg (adx.mpr c)];have c':=z ▸ c;have run:=kat_run (E:=E) (ks:=vs) (vs:=vs) (Q:=λst u=>u={ s with heap:=dh s.heap a vs}/\ ∃ p ,p.size=vs.length/\arrOf st=p.map (kas_item (vs.toArray.zip vs.toArray))/\failedOf st=Wx/\G p)
    (G:=λp u=>u={ s with heap:=dh s.heap a vs}/\G p) rfl c' h64 (λp st u b1 b2 b3 b4=>⟨b4.1,p,b1,b2,b3,b4.2⟩) (ha c' _ λp g=>⟨rfl,g⟩)
   refine Ww (hk c' _ (Ww (XE run (λr u x=>?_) λ_ _ x=>x)));obtain⟨⟨⟩,st⟩:=r;obtain⟨rfl,p,hp,har,hf,g⟩:=x;have el:(List.toArray (p.toList.map λi=>vs.getD i YI)).size<=WJ:=by rw[WZ,Wy,YF,hp];exact mW h64
   rw[kat_snds rfl har,hf];refine Ww (aej g2 rfl (Ww (abQ g2 rfl ?_ (Xv _) (Zd el))));rw[if_neg (by simp)];exact WI (last _ el (h p hp g))
abbrev lV(h:X8)(vs:List WC):X8:=((h.push (Zw "list" #[] 0)).update h.objs.size (X4 (· ++vs.toArray))).push (Zw "list" vs.toArray 0)
theorem fM(h:X8)(vs:List WC):((h.push (Zw "list" #[] 0)).update h.objs.size (X4 (· ++vs.toArray))).objs.size=h.objs.size+1:=(aaO _ _ _).trans (size_push' _ _)
theorem jN h vs:(lV h vs).get? (h.objs.size+1)=Wv (Zw "list" vs.toArray 0):=(fM h vs) ▸ WS _ rfl
theorem xc(e:h.get? b=Wv o):(lV h vs).get? b=Wv o:=by
 have l:=WN e;have z:=fM h vs;exact(aaB _ _ _ (W7 (abn (Zb l) z.symm))).trans ((ac8 _ _ _ _ (W7 l)).trans ((aaB _ _ _ (W7 l)).trans e))
theorem yb{l:W2}{vs:List WC}{Q:WC->WK->Prop}{κ :adS}{G:Array Nat->Prop}(hl:s.heap.IsList l vs.toArray)(h64:vs.length < 64)
  (hk: ∀ h':X8,(∀ b o,s.heap.get? b=Wv o->h'.get? b=Wv o)->2<=vs.length-> ∀ Q':adS->WK->Prop,Q' κ { s with heap:=h'}->W3 (W8 prog w) A.in1.in1 (keyKind' vs.toArray) Q' E { s with heap:=h'})
  (ha: ∀ h':X8,(∀ b o,s.heap.get? b=Wv o->h'.get? b=Wv o)->2<=vs.length-> ∀ Q':Array Nat->WK->Prop,(∀ p,G p->Q' p { s with heap:=h'})->(ZE vs.length).kasWp (kas_ask prog w A.in1.in1 κ vs) Q' { s with heap:=h'})
  (h0:vs.length < 2->Q (.ref (s.heap.objs.size+1)) { s with heap:=ad8 s.heap vs vs.toArray})
  (h: ∀ p:Array Nat,p.size=vs.length->G p->Q (.ref (s.heap.objs.size+1)) { s with heap:=ad8 s.heap vs (p.toList.map λi=>vs.getD i YI).toArray}):W3 (W8 prog w) A (call (.builtin "sorted") [.ref l]) Q E s:=by
 have kp: ∀ b o,s.heap.get? b=Wv o->(dh (lV s.heap vs) (s.heap.objs.size+1) vs).get? b=Wv o:=λb o e=>wU (W7 (Zb (WN e))) (xc e);refine ZX aeh adN adO (adP (.ref l)) ?_;refine Ww (m:=checkCount "sorted" 1 1 [W6 l].length) (WI (Ww (collect_list hl (Ww (aaS ?_ (mW h64))) (mW h64))));show W3 _ _ _ _ _ { s with heap:=lV s.heap vs};rw [fM];refine Ww (XQ (Yd acJ ⟨_,jN s.heap vs,rfl⟩ acz (rQ (G:=G) (κ := κ) (jN s.heap vs) h64 (hk _ kp) (ha _ kp) (λc=>⟨_,rfl,?_⟩) λp hp g=>⟨_,rfl,?_⟩) (acK (.ref (s.heap.objs.size+1)))))
 . exact WI ⟨_,rfl,h0 c⟩
 . exact WI ⟨_,rfl,h p hp g⟩
end
def pG(H:Hp)(y:V)(q:Str × Int):= ∃ b,y= .ref b/\H b=Wv (.tup [.str q.1,.int q.2])
theorem pG.v(h:pG H y q):tM H y (.inr q.1,.int q.2):=h
def G6(h:X8)(v:WC)(q:Str × Int):= ∃ b o k t u,v= .ref b/\h.get? b=Wv o/\o.cls= .type "tuple" /\o.data= .seq #[.str q.1 t,.int q.2 u] k
theorem G6.kept(k: ∀ b o,h.get? b=Wv o->h'.get? b=Wv o)(x:G6 h v q):G6 h' v q:=by obtain⟨b,o,n,t,u,e1,e2,e3,e4⟩:=x;exact⟨b,o,n,t,u,e1,k _ _ e2,e3,e4⟩
theorem vT(ok:kf P w H h): ∀{ys ps ak},XZ (pG H) ys ps->Vals ys ak->XZ (G6 h) ak ps
 | _,_,_,.nil,.nil=> .nil
 | _,_,_,.cons hp hr,.cons hv hrv=>by
  obtain⟨b,rfl,hb⟩:=hp;obtain⟨_,its0,r0,o,e1,e2,n,e3,_⟩:=(show aW P w H h b (.tup [.str _,.int _]) from ok b _ hb)
  obtain⟨u1,u2,rfl,⟨t1,rfl⟩,⟨t2,rfl⟩⟩:=vals2 r0;cases(show _=W6 b from hv);exact .cons ⟨b,o,n,t1,t2,rfl,e1,e2,e3⟩ (vT ok hr hrv)
theorem vh: ∀{vs ps},XZ (G6 h) vs ps-> ∀{i},i < vs.length-> ∃ q,ps[i]?=Wv q/\G6 h (vs.getD i YI) q
 | _,_,.nil,i,hi=>absurd hi (aa2 _)
 | _,_,.cons hp hr,0,_=>⟨_,rfl,hp⟩
 | _,_,.cons hp hr,i+1,hi=>by
  obtain ⟨q,e,a⟩:=vh hr (i:=i) (by simpa using hi);exact ⟨q,by simpa using e,by simpa using a⟩
theorem vE : ∀{vs ps}, XZ (G6 h) vs ps -> ∃ fs, KatTups h vs fs /\ fs.length = vs.length /\ ∀ v ∈ fs, ∃ x t, v = aaK x t
  | _, _, .nil => ⟨[], .nil, rfl, λv m => by cases m⟩
  | _, _, .cons hp hr => by
    obtain ⟨fs, k, l, st⟩ := vE hr;obtain ⟨b, o, n, t, u, rfl, e1, e2, e3⟩ := hp
    exact ⟨_, .cons e1 e2 e3 rfl k, by simp [l], fun v m => by rcases List.mem_cons.mp m with rfl | m; · exact ⟨_, _, rfl⟩
                                                               . exact st v m⟩
section
variable {prog:Xy} {w:X0} {A:Yk} {E:WC->WK->Prop} {s:WK}
theorem CK{vs:List WC}{ps:List (Str × Int)}(hp:XZ (G6 s.heap) vs ps)(nd:(ps.map (·.1)).Nodup){i j:Nat}{C:Bool->WK->Prop}(hi:i < vs.length)(hj:j < vs.length)(hij:i≠j)(h:C (cS (ps.map (·.1)) i j) s):kas_ask prog w A (tuples' true) vs i j C s:=by
 obtain⟨q1,f1,b1,o1,n1,t1,u1,e1,g1,c1,d1⟩:=vh hp hi;obtain⟨q2,f2,b2,o2,n2,t2,u2,e2,g2,c2,d2⟩:=vh hp hj;have hne:q1.1≠q2.1:=λz=>hij ((abE (by rw[Wy];exact(WA.mp f1).1) nd).mp (by rw[WT,WT,f1,f2];simp[z]));unfold kas_ask;rw[e1,e2];refine kat_lt g1 d1 g2 d2 (adu q1.1 t1 q2.1 t2 _ _ _ _ ?_);refine Wg (by simpa using hne) ?_;refine oneLt_str ?_;have e:cS (ps.map (·.1)) i j=decide (q1.1.cps.toList < q2.1.cps.toList):=by
  unfold cS;rw[XW,XW,WT,WT,f1,f2];rfl
 rw[e] at h;exact h
theorem zK{vs:List WC}{ps:List (Str × Int)}(hp:XZ (G6 s.heap) vs ps)(h2:2<=vs.length){Q':adS->WK->Prop}(q:Q' (tuples' true) s):W3 (W8 prog w) A (keyKind' vs.toArray) Q' E s:=by
 obtain⟨fs,k,l,st⟩:=vE hp;refine kat_kind (T:= .type "str") k (by omega) (λv m=>?_) (by decide) q;obtain⟨x,t,rfl⟩:=st v m;exact Looks.now
end
theorem qw: ∀{xs:List α}{zs:List β},XZ R xs zs-> ∀{i} d e,i < xs.length->R (xs.getD i d) (zs.getD i e)
 | _,_,.nil,i,_,_,hi=>absurd hi (aa2 _)
 | _,_,.cons hp hr,0,_,_,_=>hp
 | _,_,.cons hp hr,i+1,d,e,hi=>by simpa using qw hr (i:=i) d e (by simpa using hi)
theorem oB{xs:List α}{zs:List β}(hp:XZ R xs zs) d e: ∀{is:List Nat},(∀ i∈is,i < xs.length)->XZ R (is.map λi=>xs.getD i d) (is.map λi=>zs.getD i e)
 | [],_=> .nil
 | i::r,hi=> .cons (qw hp d e (hi i WW)) (oB hp d e λj m=>hi j (WY _ m))
theorem vZ: ∀{xs us},Vals xs us-> ∀{i},i < xs.length->RelV (xs.getD i .non) (us.getD i .none)
 | _,_,.nil,i,hi=>absurd hi (aa2 _)
 | _,_,.cons hp hr,0,_=>hp
 | _,_,.cons hp hr,i+1,hi=>by simpa using vZ hr (i:=i) (by simpa using hi)
theorem tK(h:Vals xs us): ∀{is:List Nat},(∀ i∈is,i < xs.length)->Vals (is.map λi=>xs.getD i .non) (is.map λi=>us.getD i .none)
 | [],_=> .nil
 | i::r,hi=> .cons (vZ h (hi i WW)) (tK h λj m=>hi j (WY _ m))
theorem CG{α :Type} l (d: α):(Xj l.length).map (λi=>l.getD i d)=l:=by
 refine adU λi=>?_;rw[WT];by_cases h:i < l.length
 . simp[h]
 . rw[Yj (by rw[aaC];omega),Yj (by omega)];rfl
def zC(K:Wz):List V->Hp->VK->Prop:=λxs H Q=> ∃(p:W2)(ys:List V)(ps:List (Str × Int)),xs=[.ref p]/\hW K H p ys/\XZ (pG H) ys ps/\ps.length < 64/\(ps.map (·.1)).Nodup /\
 ∀ l ys' ps',H l=Wx->ps'.Perm ps->(ps'.map (·.1)).Pairwise jU->XZ (pG H) ys' ps'->Q (.ref l) (upd H l (.lst ys'))
section
variable{X:Cx}
theorem um:aS X (.builtin "sorted") (zC X.K):=by
 intro pins s σ H xs us Q I r h;obtain⟨p,ys,ps,rfl,hS,hP,h5,nd,q⟩:=h;obtain⟨u,rfl,ru⟩:=vals1 r;cases(show u=W6 p from ru);obtain⟨ak,hv,hl,hz⟩:=I.list hS;have hat:=vT I.bA hP hv;have hlen:=hv.length;have hpl:=Ze hP;have fs0:=vx (xs:=ps.map (·.1))
 rw[Wy] at fs0;have el:ak.length=ps.length:=by omega
 have fin: ∀(out:List WC)(ys':List V)(ps':List (Str × Int)),ys'.length=ps.length->Vals ys' out->ps'.Perm ps->(ps'.map (·.1)).Pairwise jU->XZ (pG H) ys' ps'->EP X pins σ Q (.ref (s.heap.objs.size+1)) { s with heap:=ad8 s.heap ak out.toArray}:=λout ys' ps' hl' hv' pm pw pp=>by
  obtain⟨e,he⟩:=adQ s.heap ak out.toArray;obtain⟨hn,I'⟩:=I.mX (a:=s.heap.objs.size+1) (o:= .lst ys') (t':=s.toks) (λb o e=>adk e) (YS (abB _)) ⟨by rw[hl'];exact Xb (YY h5) (by decide),out,e,hv',by simpa [Zw] using he⟩;exact⟨.ref _,_,I',rfl,q _ ys' ps' hn pm pw pp⟩
 refine yb (κ :=tuples' true) (G:=λp=>2<=ak.length/\p=zY (cS (ps.map (·.1))) (ZE ps.length)) hl.isList (by omega)
  (λh' k h2 Q' hq=>zK (s:={ s with heap:=h'}) (Paired.BG hat λv q x=>x.kept k) h2 hq)
  (λh' k h2 Q' hq=>xj (n:=ak.length) (c:=cS (ps.map (·.1))) (λi j C hi hj hij hc=>CK (s:={ s with heap:=h'}) (Paired.BG hat λv q x=>x.kept k) nd hi hj hij hc) _ (by rw[el];exact(fs0 (by omega) nd).1) (hq _ ⟨h2,by rw[el]⟩))
  (λh2=>?_) λpp hpp g=>?_
 . refine fin ak ys ps (by omega) hv (aey _) ?_ hP;cases ps with
   | nil=>exact .nil
   | cons x r=>cases r with
    | nil=>exact ab8 _ _
    | cons y r'=>simp at el;omega
 . obtain⟨g2,g⟩:=g;have fs:=fs0 (by omega) nd;subst g;have lt: ∀ i∈(zY (cS (ps.map (·.1))) (ZE ps.length)).toList,i < ps.length:=λi hi=>YR.mp (fs.2.1.mem_iff.mp hi)
   refine fin _ ((zY (cS (ps.map (·.1))) (ZE ps.length)).toList.map λi=>ys.getD i .non) ((zY (cS (ps.map (·.1))) (ZE ps.length)).toList.map λi=>ps.getD i ("",0)) ?_ (tK hv λi hi=>by have:=lt i hi;omega) ?_ ?_ (oB hP _ _ λi hi=>by have:=lt i hi;omega)
   . rw[Wy,YF,hpp,el]
   . have:=fs.2.1.map (λi=>ps.getD i ("",0));rw[CG] at this;exact this
   . have e:(((zY (cS (ps.map (·.1))) (ZE ps.length)).toList.map λi=>ps.getD i ("",0)).map (·.1))=(zY (cS (ps.map (·.1))) (ZE ps.length)).toList.map λi=>(ps.map (·.1)).getD i ("" :Str):=by
      rw[XB];refine ZZ λi hi=>?_;show(ps.getD i ("",0)).1=_;rw[XW,XW,WT,WD (lt i hi)];rfl
     rw[e];exact fs.2.2
theorem wz(hc:X.calm=true):aS X (.builtin "sorted") (λxs H Q=>Fo X.K xs H Q\/(E3 xs H Q\/zC X.K xs H Q)):=nG.or ((mY hc).or um)
end
def Lp(K:Wz):List V->Hp->VK->Prop:=λxs H Q=> ∃ x p Ts T b,xs=[x,.ref p]/\H p=Wv (.tup (aeL V.ty Ts))/\j8 K H x (.type T)/\acX K (.type T) (aeL YT Ts)=Wv b/\Q (.bl b) H
theorem Ag: ∀{Ts:List String}{us},Vals (Ts.map V.ty) us->us=Ts.map YT
 | [],_,.nil=>rfl
 | T::r,u::us,.cons h t=>by rw[Ag t,show u=YT T from h];rfl
section
variable{X:Cx}
theorem uJ:aS X (.builtin "isinstance") (Lp X.K):=by
 intro pins s σ H xs us Q I r h;obtain⟨x,p,Ts,T,b,rfl,hp,ty,e,q⟩:=h;obtain⟨u,c,rfl,ru,rc⟩:=vals2 r;cases(show c=W6 p from rc);obtain⟨_,ak,hv,⟨oc,dd,dat,sl⟩,e1,e2,n,e3,_⟩:=(show aW X.prog X.w H s.heap p (.tup (Ts.map V.ty)) from I.bA p _ hp)
 simp only at e2 e3;subst e2 e3;obtain rfl:=Ag hv;have fin: ∀ tk,EP X pins σ Q (.bool b) { s with toks:=tk}:=λtk=>⟨.bl b,H,I.tok tk,rfl,q⟩
 generalize hT:YT T=t at ty e;cases ty with
 | non=>cases(show u=YI from ru);exact abb kitx_none I.kL trivial e1 e nofun fin
 | bl y=>cases(show u=aaL y from ru);exact abb kitx_bool I.kL trivial e1 e nofun fin
 | int i=>obtain⟨_,rfl⟩:=(show ∃ t,u=ZR i t from ru);exact abb kitx_int I.kL trivial e1 e nofun fin
 | str y=>obtain⟨_,rfl⟩:=(show ∃ t,u=aaK y t from ru);exact abb kitx_str I.kL trivial e1 e nofun fin
 | flt y=>obtain⟨_,rfl⟩:=(show ∃ t,u=aec y t from ru);exact abb aeu I.kL trivial e1 e nofun fin
 | @lst a xs ea =>
  cases(show u=W6 a from ru)
  obtain⟨_,_,_,_,g⟩:=(show aW X.prog X.w H s.heap a (.lst xs) from I.bA a _ ea)
  exact abb abJ I.kL ⟨_,g,rfl⟩ e1 e nofun fin
 | @kU a ob xs ea =>
  cases(show u=W6 a from ru)
  obtain⟨_,_,_,_,_,g⟩:=(show aW X.prog X.w H s.heap a (.kU ob (.lst xs)) from I.bA a _ ea)
  exact abb abJ I.kL ⟨_,g,rfl⟩ e1 e nofun fin
 | @tup a xs ea =>
  cases(show u=W6 a from ru)
  obtain⟨_,_,_,o,g1,g2,_⟩:=(show aW X.prog X.w H s.heap a (.tup xs) from I.bA a _ ea)
  exact abb aev I.kL ⟨o,g1,g2⟩ e1 e nofun fin
 | @dK a kvs ea =>
  cases(show u=W6 a from ru)
  obtain⟨_,_,_,_,o,_,_,g1,g2,_⟩:=(show aW X.prog X.w H s.heap a (.dK kvs) from I.bA a _ ea)
  exact abb abK I.kL ⟨o,g1,g2.1⟩ e1 e nofun fin
 | @dT a kvs ea =>
  cases(show u=W6 a from ru)
  obtain⟨_,_,_,_,o,_,_,g1,g2,_⟩:=(show aW X.prog X.w H s.heap a (.dT kvs) from I.bA a _ ea)
  exact abb abK I.kL ⟨o,g1,g2.1⟩ e1 e nofun fin
 | ins=>cases hT
theorem DA:aS X (.builtin "isinstance") (λxs H Q=>S8 X.K xs H Q\/Lp X.K xs H Q):=IH.or uJ
end
section
variable{prog:Xy}{w:X0}{A:Yk}{E:WC->WK->Prop}{s:WK}
theorem OR[Decidable c](hc: ¬ c)(h:W3 M A m' Q E s):W3 M A (if c then m else m') Q E s:=by rw[if_neg hc];exact h
theorem iJ{it t:W2}{i:Nat}{items:Array WC}{x:WC}{Q:WC->WK->Prop}(hit:s.heap.IsTupleIter it t i)(ht:s.heap.IsTuple t items)(hx:items[i]?=Wv x)
  (q: ∀ h',h'.IsTupleIter it t (i+1)->aa9 it s.heap h'->Q x { s with heap:=h'}):W3 (W8 prog w) A (Xi (.ref it)) Q E s:=by
 obtain⟨oi,g1,c1,d1⟩:=id hit;obtain⟨ot,g2,_,k,d2⟩:=id ht;have new:(s.heap.update it (Obj.mapFields (·.setIfInBounds 1 (ad0 ((i:Int)+1))))).IsTupleIter it t (i+1):=⟨_,YH _ g1 (Obj.isFreed_of_fields (ady d1 _)),(Obj.cls_mapFields ..).trans c1,(ady d1 _).trans (by simp[ad0])⟩
 refine Ww (XU (name:=WU "__next__") hit.typeIs YD (Yd YD hit.typeIs aas ?_ (aak (.ref it))));refine Ww (m:=aa7 (.ref it) 0) (XO g1 d1 (x:= .ref t) rfl (OR (λz=>by cases z) (Ww (m:=aa7 (.ref it) 1) (XO g1 d1 (x:= .int i 0) rfl (Ww (m:=seqItems? (.ref t)) (Ya g2 d2 ?_))))));dsimp only;rw[XA,hx];exact Ww (wpAny_setField g1 d1 (by simp) (WI ⟨x,rfl,WI (q _ new (ac9 ..))⟩))
theorem nM{it t:W2}{i:Nat}{items:Array WC}{Q:WC->WK->Prop}(hh:A.handled=Wx)(hit:s.heap.IsTupleIter it t i)(ht:s.heap.IsTuple t items)(hx:items[i]?=Wx)
  (q: ∀ h' e,Heap.ExtBut it s.heap h'->(∃ o,h'.get? e=Wv o/\o.cls= .type "StopIteration")->E (.ref e) { s with heap:=h'}):W3 (W8 prog w) A (Xi (.ref it)) Q E s:=by
 obtain⟨oi,g1,c1,d1⟩:=id hit;obtain⟨ot,g2,_,k,d2⟩:=id ht;refine Ww (XU (name:=WU "__next__") hit.typeIs YD (Yd YD hit.typeIs aas ?_ (aak (.ref it))));refine Ww (m:=aa7 (.ref it) 0) (XO g1 d1 (x:= .ref t) rfl (OR (λz=>by cases z) (Ww (m:=aa7 (.ref it) 1) (XO g1 d1 (x:= .int i 0) rfl (Ww (m:=seqItems? (.ref t)) (Ya g2 d2 ?_))))));dsimp only;rw[XA,hx];refine Ww (abm (Ww (wpAny_setField g1 d1 (by simp) (Ww (m:=newExc (.type "StopIteration") []) (Ww (m:=newTuple []) (Yi ?_ (by size_fits)))))));refine Ww (m:=firstArgMember _ _) (wpAny_of_eq (a:=YI) (by rfl) (Yi ?_ (by size_fits)));refine Ww (wpAny_handled ?_);rw[show A.in1.handled=Wx from hh];exact Ww (WI (wpAny_throw (q _ _ (((ac9 ..).extBut.push _).push _) ⟨_,WS _ rfl,rfl⟩)))
structure v9(h:X8)(z TI TO i1 i2 l1 l2:W2)(k:Nat):Prop where
 Br:aek h z TI TO .none
 ak:aal h TI (.ref i1) (.ref i2)
 old: ∃ a b,aal h TO a b
 one:h.IsTupleIter i1 l1 k
 two:h.IsTupleIter i2 l2 k
theorem Bu{z TI TO i1 i2 l1 l2:W2}{k:Nat}{xs ys:Array WC}{x y:WC}{Q:WC->WK->Prop}(D:aad z TI TO i1 i2 l1 l2)(Z:v9 s.heap z TI TO i1 i2 l1 l2 k)(t1:s.heap.IsTuple l1 xs)(t2:s.heap.IsTuple l2 ys)(hx:xs[k]?=Wv x)(hy:ys[k]?=Wv y)
  (q: ∀ h',aek h' z TI TO (ad0 s.heap.objs.size)->aal h' TI (.ref i1) (.ref i2)->aal h' TO x y->h'.IsTupleIter i1 l1 (k+1)->h'.IsTupleIter i2 l2 (k+1)->aal h' s.heap.objs.size x y ->
   (∀ c o,c≠z->c≠TO->c≠i1->c≠i2->s.heap.get? c=Wv o->h'.get? c=Wv o)->Q (.ref s.heap.objs.size) { s with heap:=h'}):W3 (W8 prog w) A (Zx.«zip.__next__» ⟨[.ref z],[]⟩) (λr u=> ∃ v,r= .done (.ret v)/\Q v u) E s:=by
 obtain⟨hz,hTI,⟨a,b,hTO⟩,o1,o2⟩:=Z;refine Ww (m:=aa7 (.ref z) 2) (XO hz rfl (x:= .bool false) rfl ?_);refine Ww (m:=aa7 (.ref z) 3) (XO hz rfl (x:= .ref TI) rfl (Ww (Ya hTI rfl ?_)));refine Ww (m:=XY (.ref z)) (Ww (m:=aa7 (.ref z) 0) (XO hz rfl (x:= .none) rfl (WI (Qe rfl (Ww (abm ?_))))));refine Ww (m:=aa7 (.ref z) 4) (XO hz rfl (x:= .ref TO) rfl (Ww (YO hz (by simp) λu1 z1 b1=>?_)))
 replace z1:=z1
 refine Ww ?_;rw[show(#[W6 i1,W6 i2]).toList.zipIdx=[(W6 i1,0),(W6 i2,1)] from rfl,Yr];refine Ww (Ww (aaT (Ww (m:=Xi (.ref i1)) (iJ (o1.at λo e=>b1.extBut _ _ D.i1z e) (t1.at λo e=>b1.extBut _ _ D.l1z e) hx λu2 p1 b2=>WI ?_))));have T2:=b2.extBut _ _ D.TOi1 (b1.extBut _ _ D.TOz hTO);refine Ww (Ya T2 rfl (Ww (aaY T2 λu3 T3 b3=>Ww (acY (WI ?_)))))
 replace T3:=T3
 have k3: ∀ c o,c≠z->c≠TO->c≠i1->s.heap.get? c=Wv o->u3.get? c=Wv o:=λc o n1 n2 n3 e=>b3.extBut _ _ n2 (b2.extBut _ _ n3 (b1.extBut _ _ n1 e));dsimp only;rw[Yr];refine Ww (Ww (aaT (Ww (m:=Xi (.ref i2)) (iJ (o2.at λo e=>k3 _ o D.i2z D.TOi2.symm D.i12.symm e) (t2.at λo e=>k3 _ o D.l2z D.l2TO D.l2i1 e) hy λu4 p2 b4=>WI ?_))));have T4:=b4.extBut _ _ D.TOi2 T3;refine Ww (Ya T4 rfl (Ww (aaY T4 λu5 T5 b5=>Ww (acY (WI ?_)))))
 replace T5:aal u5 TO x y:=T5
 have k5:=λc o n1 n2 n3 n4 e=>b5.extBut _ _ n2 (b4.extBut _ _ n4 (k3 c o n1 n2 n3 e));have sz:=b5.1.trans (b4.1.trans (b3.1.trans (b2.1.trans b1.1)));have z5:=b5.extBut _ _ D.TOz.symm (b4.extBut _ _ D.i2z.symm (b3.extBut _ _ D.TOz.symm (b2.extBut _ _ D.i1z.symm z1)));have p15:=p1.at λo e=>b5.extBut _ _ D.TOi1.symm (b4.extBut _ _ D.i12 (b3.extBut _ _ D.TOi1.symm e));have p25:=p2.at λo e=>b5.extBut _ _ D.TOi2.symm e;have lz:=WN z5;dsimp only;rw[List.forIn_nil];refine WI (Ww (Ya T5 rfl (Ww (acW ?_ (by show 2<=WJ;decide)))));have z6:aek (u5.push { cls:= .type "tuple",data:= .seq #[x,y]}) z TI TO .ellipsis:=WB _ z5;refine Ww (m:=ada (.ref z) (.ref u5.objs.size)) (Ww (YO z6 (by simp) λu7 z7 b7=>YO (show aek u7 z TI TO (ad0 u5.objs.size) from z7) (by simp) λu8 z8 b8=>WI ⟨_,rfl,?_⟩));have up: ∀ c o,c≠z->u5.get? c=Wv o->u8.get? c=Wv o:=λc o n e=>b8.extBut _ _ n (b7.extBut _ _ n (WB _ e));have T8:=b8.extBut _ _ (Yq lz) (b7.extBut _ _ (Yq lz) (WS _ rfl))
 replace z8:=z8
 rw[sz] at z8 T8 ⊢;exact q u8 z8 (up _ _ D.TIz (k5 _ _ D.TIz D.TITO D.TIi1 D.TIi2 hTI)) (up _ _ D.TOz T5) (p15.at λo e=>up _ o D.i1z e) (p25.at λo e=>up _ o D.i2z e) T8 λc o n1 n2 n3 n4 e=>up c o n1 (k5 c o n1 n2 n3 n4 e)
theorem Fz{z TI TO i1 i2 l1 l2:W2}{k:Nat}{xs ys:Array WC}{Q:aeC->WK->Prop}(hh:A.handled=Wx)(D:aad z TI TO i1 i2 l1 l2)(Z:v9 s.heap z TI TO i1 i2 l1 l2 k)(t1:s.heap.IsTuple l1 xs)(t2:s.heap.IsTuple l2 ys)(he:xs[k]?=Wx\/ys[k]?=Wx)
  (q: ∀ h' e,(∀ c o,c≠z->c≠TO->c≠i1->c≠i2->s.heap.get? c=Wv o->h'.get? c=Wv o)->(∃ o,h'.get? e=Wv o/\o.cls= .type "StopIteration")->E (.ref e) { s with heap:=h'}):W3 (W8 prog w) A (Zx.«zip.__next__» ⟨[.ref z],[]⟩) Q E s:=by
 obtain⟨hz,hTI,⟨a,b,hTO⟩,o1,o2⟩:=Z;have ap: ∀(h':X8)(f0:WC)(e:W2)(o:Obj),aek h' z TI TO f0->h'.get? e=Wv o->o.cls= .type "StopIteration" ->e≠z:=λh' f0 e o y g c n=>by rw[n,y] at g;cases g;simp at c
 refine Ww (m:=aa7 (.ref z) 2) (XO hz rfl (x:= .bool false) rfl ?_);refine Ww (m:=aa7 (.ref z) 3) (XO hz rfl (x:= .ref TI) rfl (Ww (Ya hTI rfl ?_)));refine Ww (m:=XY (.ref z)) (Ww (m:=aa7 (.ref z) 0) (XO hz rfl (x:= .none) rfl (WI (Qe rfl (Ww (abm ?_))))));refine Ww (m:=aa7 (.ref z) 4) (XO hz rfl (x:= .ref TO) rfl (Ww (YO hz (by simp) λu1 z1 b1=>?_)));refine Ww ?_;rw[show(#[W6 i1,W6 i2]).toList.zipIdx=[(W6 i1,0),(W6 i2,1)] from rfl,Yr]
 match hx:xs[k]? with
 | none =>
  refine Ww (Ww (aaT (Ww (m:=Xi (.ref i1)) (nM hh (o1.at λo e=>b1.extBut _ _ D.i1z e) (t1.at λo e=>b1.extBut _ _ D.l1z e) hx λu2 e b2 g=>?_))))
  obtain⟨oe,g1,g2⟩:=g
  have z2:=b2 _ _ D.i1z.symm z1
  exact YO z2 (by simp) λu3 _ b3=>q u3 e (λc o n1 _ n3 _ y=>b3.extBut _ _ n1 (b2 _ _ n3 (b1.extBut _ _ n1 y))) ⟨oe,b3.extBut _ _ (ap u2 _ e oe z2 g1 g2) g1,g2⟩
 | some x =>
  have hy:=he.resolve_left (by rw[hx];intro y;cases y)
  refine Ww (Ww (aaT (Ww (m:=Xi (.ref i1)) (iJ (o1.at λo e=>b1.extBut _ _ D.i1z e) (t1.at λo e=>b1.extBut _ _ D.l1z e) hx λu2 p1 b2=>WI ?_))))
  have T2:=b2.extBut _ _ D.TOi1 (b1.extBut _ _ D.TOz hTO)
  refine Ww (Ya T2 rfl (Ww (aaY T2 λu3 T3 b3=>Ww (acY (WI ?_)))))
  have k3: ∀ c o,c≠z->c≠TO->c≠i1->s.heap.get? c=Wv o->u3.get? c=Wv o:=λc o n1 n2 n3 e=>b3.extBut _ _ n2 (b2.extBut _ _ n3 (b1.extBut _ _ n1 e))
  dsimp only
  rw[Yr]
  refine Ww (Ww (aaT (Ww (m:=Xi (.ref i2)) (nM hh (o2.at λo e=>k3 _ o D.i2z D.TOi2.symm D.i12.symm e) (t2.at λo e=>k3 _ o D.l2z D.l2TO D.l2i1 e) hy λu4 e b4 g=>?_))))
  obtain⟨oe,g1,g2⟩:=g
  have z4:=b4 _ _ D.i2z.symm (b3.extBut _ _ D.TOz.symm (b2.extBut _ _ D.i1z.symm z1))
  exact YO z4 (by simp) λu5 _ b5=>q u5 e (λc o n1 n2 n3 n4 y=>b5.extBut _ _ n1 (b4 _ _ n4 (k3 c o n1 n2 n3 y))) ⟨oe,b5.extBut _ _ (ap u4 _ e oe z4 g1 g2) g1,g2⟩
theorem pW{z TI TO i1 i2 l1 l2:W2}{k:Nat}{xs ys:Array WC}{x y:WC}{Q:Option WC->WK->Prop}(D:aad z TI TO i1 i2 l1 l2)(Z:v9 s.heap z TI TO i1 i2 l1 l2 k)(t1:s.heap.IsTuple l1 xs)(t2:s.heap.IsTuple l2 ys)(hx:xs[k]?=Wv x)(hy:ys[k]?=Wv y)
  (q: ∀ h',aek h' z TI TO (ad0 s.heap.objs.size)->aal h' TI (.ref i1) (.ref i2)->aal h' TO x y->h'.IsTupleIter i1 l1 (k+1)->h'.IsTupleIter i2 l2 (k+1)->aal h' s.heap.objs.size x y ->
   (∀ c o,c≠z->c≠TO->c≠i1->c≠i2->s.heap.get? c=Wv o->h'.get? c=Wv o)->Q (Wv (.ref s.heap.objs.size)) { s with heap:=h'}):W3 (W8 prog w) A (acL (.ref z)) Q E s :=
 have ty:=⟨_,Z.Br,rfl⟩
 Ww (abR (XU (name:=WU "__next__") ty X7 (Yd X7 ty Zy (Bu D Z t1 t2 hx hy λh' a1 a2 a3 a4 a5 a6 a7=>WI (q h' a1 a2 a3 a4 a5 a6 a7)) (Zm (.ref z)))))
theorem rl{z TI TO i1 i2 l1 l2:W2}{k:Nat}{xs ys:Array WC}{Q:Option WC->WK->Prop}(hh:A.handled=Wx)(D:aad z TI TO i1 i2 l1 l2)(Z:v9 s.heap z TI TO i1 i2 l1 l2 k)(t1:s.heap.IsTuple l1 xs)(t2:s.heap.IsTuple l2 ys)(he:xs[k]?=Wx\/ys[k]?=Wx)
  (q: ∀ h',(∀ c o,c≠z->c≠TO->c≠i1->c≠i2->s.heap.get? c=Wv o->h'.get? c=Wv o)->Q Wx { s with heap:=h'}):W3 (W8 prog w) A (acL (.ref z)) Q E s :=
 have ty:=⟨_,Z.Br,rfl⟩
 Ww (abR (XU (name:=WU "__next__") ty X7 (Yd X7 ty Zy (Fz (A:=A.in1) hh D Z t1 t2 he λh' e a1 g =>
  by obtain⟨o,g1,g2⟩:=g;exact Ww (ab9 (T:= "StopIteration") (b:=true) ⟨o,g1,g2⟩ isSubtype_stop (WI (q h' a1)))) (Zm (.ref z)))))
end
end L2
end
section
open PySem PySem.W PyProof.Rows
namespace P3
open PySem PySem.Spec PyProof.Rows L2
inductive PV where
 | non | bl (b:Bool) | int (i:Int) | str (x:Str) | tup (xs:List PV) | ktup (xs:List PV) | ref (n:Nat) | ty (n:String)
mutual
def PV.beq:PV->PV->Bool
 | .non,.non=>true
 | .bl a,.bl b=>decide (a=b)
 | .int a,.int b=>decide (a=b)
 | .str a,.str b=>decide (a=b)
 | .tup a,.tup b=>PV.GQ a b
 | .ktup a,.ktup b=>PV.GQ a b
 | .ref a,.ref b=>decide (a=b)
 | .ty a,.ty b=>decide (a=b)
 | _,_=>false
def PV.GQ:List PV->List PV->Bool
 | [],[]=>true
 | a::x,b::y=>PV.beq a b&&PV.GQ x y
 | _,_=>false
end
theorem gZ{p:Prop}(h: ¬ p):false=true↔p:=⟨λe=>(by cases e),λe=>absurd e h⟩
mutual
theorem PV.beq_iff: ∀(a b:PV),PV.beq a b=true↔a=b
 | .non,b=>by cases b<;>first | exact iff_of_true rfl rfl | exact gZ (by intro e;cases e)
 | .bl _,b=>by cases b<;>first | exact decide_eq_true_iff.trans (by simp) | exact gZ (by intro e;cases e)
 | .int _,b=>by cases b<;>first | exact decide_eq_true_iff.trans (by simp) | exact gZ (by intro e;cases e)
 | .str _,b=>by cases b<;>first | exact decide_eq_true_iff.trans (by simp) | exact gZ (by intro e;cases e)
 | .ref _,b=>by cases b<;>first | exact decide_eq_true_iff.trans (by simp) | exact gZ (by intro e;cases e)
 | .ty _,b=>by cases b<;>first | exact decide_eq_true_iff.trans (by simp) | exact gZ (by intro e;cases e)
 | .tup a,b=>by cases b<;>first | exact(PV.qD a _).trans (by simp) | exact gZ (by intro e;cases e)
 | .ktup a,b=>by cases b<;>first | exact(PV.qD a _).trans (by simp) | exact gZ (by intro e;cases e)
theorem PV.qD: ∀(a b:List PV),PV.GQ a b=true↔a=b
 | [],b=>by cases b<;>first | exact iff_of_true rfl rfl | exact gZ (by intro e;cases e)
 | a::x,b=>by
  cases b with
  | nil=>exact gZ (by intro e;cases e)
  | cons b y=>exact(acR.trans (and_congr (PV.beq_iff a b) (PV.qD x y))).trans (by simp)
end
instance:DecidableEq PV:=λa b=>decidable_of_iff _ (PV.beq_iff a b)
mutual
def PV.flat:PV->Bool
 | .ref _=>false
 | .tup xs=>PV.bo xs
 | .ktup xs=>PV.bo xs
 | _=>true
def PV.bo:List PV->Bool
 | []=>true
 | x::r=>x.flat&&PV.bo r
end
mutual
def PV.hX(n:Nat):PV->Bool
 | .ref m=>decide (m < n)
 | .tup xs=>PV.iy n xs
 | .ktup xs=>PV.iy n xs
 | _=>true
def PV.iy(n:Nat):List PV->Bool
 | []=>true
 | x::r=>x.hX n&&PV.iy n r
end
inductive PO where
 | lst (xs:List PV) | kZ (xs:List PV) | dct (kvs:List (Key × PV))
 deriving DecidableEq
noncomputable def PO.dz:PO->Bool
 | .kZ _=>false
 | _=>true
noncomputable def PO.hX(n:Nat):PO->Bool
 | .lst xs=>PV.iy n xs
 | .kZ xs=>PV.iy n xs
 | .dct kvs=>PV.iy n (kvs.map (·.2))
abbrev PH:=List PO
abbrev aQ:=List (Option PV)
def KT(K:Wz) a (xs:List V):= ∃(o:Obj)(ak:Array WC)(n:Nat),K.lookup a=Wv o/\o.cls= .type "tuple" /\o.data= .seq ak n/\ak.size<=WJ/\Vals xs ak.toList
mutual
def rel(K:Wz)(ρ :List W2)(H:Hp):PV->V->Prop
 | .non,v=>v= .non
 | .bl b,v=>v= .bl b
 | .int i,v=>v= .int i
 | .str x,v=>v= .str x
 | .ty n,v=>v= .ty n
 | .ref n,v=> ∃ a, ρ[n]?=Wv a∧v= .ref a
 | .tup xs,v=> ∃ a vs,v= .ref a∧H a=Wv (.tup vs)∧ao K ρ H xs vs
 | .ktup xs,v=> ∃ a vs,v= .ref a∧KT K a vs∧ao K ρ H xs vs
def ao(K:Wz)(ρ :List W2)(H:Hp):List PV->List V->Prop
 | [],vs=>vs=[]
 | x::r,vs=> ∃ v t,vs=v::t∧rel K ρ H x v∧ao K ρ H r t
end
structure Gr (ρ :List W2) (H:Hp) (ρ':List W2) (H':Hp):Prop where
 pre: ∀(n:Nat)(a:W2), ρ[n]?=Wv a-> ρ'[n]?=Wv a
 tup: ∀ a xs,H a=Wv (.tup xs)->H' a=Wv (.tup xs)
 kU: ∀ a o u,H a=Wv (.kU o u)->H' a=Wv (.kU o u)
theorem Gr.refl ρ H:Gr ρ H ρ H:=⟨λ_ _ h=>h,λ_ _ h=>h,λ_ _ _ h=>h⟩
theorem Gr.trans(a:Gr ρ H ρ1 H1)(b:Gr ρ1 H1 ρ2 H2):Gr ρ H ρ2 H2 :=
 ⟨λn x h=>b.pre n x (a.pre n x h),λx xs h=>b.tup x xs (a.tup x xs h),λx o u h=>b.kU x o u (a.kU x o u h)⟩
section
variable{K:Wz}{ρ ρ':List W2}{H H':Hp}
theorem Gr.Gj(g:Gr ρ H ρ' H')(h:fw K H a xs):fw K H' a xs:=by
 rcases h with(h | ⟨o,h⟩) | h
 . exact .inl (.inl (g.tup _ _ h))
 . exact .inl (.inr ⟨o,g.kU _ _ _ h⟩)
 . exact .inr h
theorem Gr.Wh(g:Gr ρ H ρ' H')(h:zS K H a xs):zS K H' a xs:=by
 rcases h with⟨o,h⟩ | h
 . exact .inl ⟨o,g.kU _ _ _ h⟩
 . exact .inr h
mutual
theorem rel.gr(g:Gr ρ H ρ' H'): ∀(x:PV)(v:V),rel K ρ H x v->rel K ρ' H' x v
 | .non,v,h=>by simpa only[rel] using h
 | .bl _,v,h=>by simpa only[rel] using h
 | .int _,v,h=>by simpa only[rel] using h
 | .str _,v,h=>by simpa only[rel] using h
 | .ty _,v,h=>by simpa only[rel] using h
 | .ref n,v,h=>by
  rw[rel] at h ⊢;obtain⟨a,e,h⟩:=h;exact⟨a,g.pre _ _ e,h⟩
 | .tup xs,v,h=>by
  rw[rel] at h ⊢;obtain⟨a,vs,e,s,r⟩:=h;exact⟨a,vs,e,g.tup _ _ s,ao.gr g xs vs r⟩
 | .ktup xs,v,h=>by
  rw[rel] at h ⊢;obtain⟨a,vs,e,s,r⟩:=h;exact⟨a,vs,e,s,ao.gr g xs vs r⟩
theorem ao.gr(g:Gr ρ H ρ' H'): ∀(xs:List PV)(vs:List V),ao K ρ H xs vs->ao K ρ' H' xs vs
 | [],vs,h=>by simpa only[ao] using h
 | x::r,vs,h=>by
  rw[ao] at h ⊢;obtain⟨v,t,e,h1,h2⟩:=h;exact⟨v,t,e,rel.gr g x v h1,ao.gr g r t h2⟩
end
noncomputable def PV.seq?:PV->Option (List PV)
 | .tup xs=>Wv xs
 | .ktup xs=>Wv xs
 | _=>Wx
theorem rel.seq(e:x.seq?=Wv xs)(h:rel K ρ H x v): ∃ a vs,v= .ref a/\fw K H a vs/\ao K ρ H xs vs:=by
 cases x<;>simp only[PV.seq?,reduceCtorEq,Zc] at e
 . subst e;obtain⟨a,vs,e,z,r⟩:=h;exact⟨a,vs,e,.of z,r⟩
 . subst e;obtain⟨a,vs,e,z,r⟩:=h;exact⟨a,vs,e,.inr z,r⟩
theorem cg:ao K ρ H [] vs↔vs=[]:=by rw[ao]
theorem az:ao K ρ H (x::r) vs↔ ∃ v t,vs=v::t/\rel K ρ H x v/\ao K ρ H r t:=by rw[ao]
theorem ao.len: ∀{xs vs},ao K ρ H xs vs->xs.length=vs.length
 | [],vs,h=>by rw[h];rfl
 | x::r,vs,h=>by
  obtain⟨v,t,rfl,_,h2⟩:=az.mp h;simp[ao.len h2]
theorem ao.get: ∀{xs vs}{i:Nat}{x},ao K ρ H xs vs->xs[i]?=Wv x-> ∃ v,vs[i]?=Wv v/\rel K ρ H x v
 | [],vs,i,x,h,e=>by simp at e
 | y::r,vs,i,x,h,e=>by
  obtain⟨v,t,rfl,h1,h2⟩:=az.mp h;cases i with
  | zero=>simp at e;subst e;exact⟨v,rfl,h1⟩
  | succ i=>simpa using ao.get h2 (by simpa using e)
theorem ao.app: ∀{xs ys vs ws},ao K ρ H xs vs->ao K ρ H ys ws->ao K ρ H (xs++ys) (vs++ws)
 | [],ys,vs,ws,h,h'=>by subst h;exact h'
 | x::r,ys,vs,ws,h,h'=>by
  obtain⟨v,t,rfl,h1,h2⟩:=az.mp h;exact az.mpr ⟨v,t++ws,rfl,h1,ao.app h2 h'⟩
theorem ao.one(h:rel K ρ H x v):ao K ρ H [x] [v]:=az.mpr ⟨v,[],rfl,h,cg.mpr rfl⟩
theorem ao.take: ∀{xs vs} n,ao K ρ H xs vs->ao K ρ H (xs.take n) (vs.take n)
 | xs,vs,0,h=>by simp[cg]
 | [],vs,n+1,h=>by subst h;simp[cg]
 | x::r,vs,n+1,h=>by
  obtain⟨v,t,rfl,h1,h2⟩:=az.mp h;exact az.mpr ⟨v,t.take n,rfl,h1,ao.take n h2⟩
theorem ao.drop: ∀{xs vs} n,ao K ρ H xs vs->ao K ρ H (xs.drop n) (vs.drop n)
 | xs,vs,0,h=>h
 | [],vs,n+1,h=>by subst h;simp[cg]
 | x::r,vs,n+1,h=>by
  obtain⟨v,t,rfl,h1,h2⟩:=az.mp h;exact ao.drop n h2
theorem ao.set: ∀{xs vs x v} i,ao K ρ H xs vs->rel K ρ H x v->ao K ρ H (xs.set i x) (vs.set i v)
 | [],vs,x,v,i,h,hv=>by subst h;simp[cg]
 | y::r,vs,x,v,i,h,hv=>by
  obtain⟨w,t,rfl,h1,h2⟩:=az.mp h;cases i with
  | zero=>exact az.mpr ⟨v,t,rfl,hv,h2⟩
  | succ i=>exact az.mpr ⟨w,t.set i v,rfl,h1,ao.set i h2 hv⟩
theorem ao.ints: ∀(ns:List Int),ao K ρ H (ns.map PV.int) (ns.map V.int)
 | []=>cg.mpr rfl
 | n::r=>az.mpr ⟨.int n,r.map V.int,rfl,by rw[rel],ao.ints r⟩
end
def nE(K:Wz)(ρ :List W2)(H:Hp)(a:W2):PO->Prop
 | .lst xs=> ∃ vs,H a=Wv (.lst vs)/\ao K ρ H xs vs
 | .kZ xs=> ∃ vs,zS K H a vs/\ao K ρ H xs vs
 | .dct kvs=> ∃ kws,H a=Wv (.dK kws)/\XZ (λ(p) (q)=>p.1=q.1/\rel K ρ H p.2 q.2) kvs kws
structure cY(K:Wz)(ρ :List W2)(h:PH)(H:Hp):Prop where
 len: ρ.length=h.length
 nd: ∀(i j:Nat)(a:W2)(oi oj:PO),h[i]?=Wv oi->h[j]?=Wv oj->oi.dz=true->oj.dz=true-> ρ[i]?=Wv a-> ρ[j]?=Wv a->i=j
 ob: ∀(i:Nat)(o:PO)(a:W2),h[i]?=Wv o-> ρ[i]?=Wv a->nE K ρ H a o
section
variable {K:Wz} {ρ ρ':List W2} {H H':Hp} {h:PH}
theorem cY.at(s:cY K ρ h H){i:Nat}(e:h[i]?=Wv o): ∃ a, ρ[i]?=Wv a∧nE K ρ H a o:=by
 have hi:i < ρ.length:=by rw [s.len];exact (WA.mp e).1
 exact ⟨ρ[i],WD hi,s.ob i o _ e (WD hi)⟩
theorem Paired.jX(g:Gr ρ H ρ' H')(h:XZ (λ(p:Key × PV) (q:Key × V)=>p.1=q.1∧rel K ρ H p.2 q.2) kvs kws) :
  XZ (λ(p) (q)=>p.1=q.1/\rel K ρ' H' p.2 q.2) kvs kws:=Paired.BG h λ_ _ z=>⟨z.1,rel.gr g _ _ z.2⟩
theorem jm(m:o.dz=true)(r:nE K ρ H a o):(∃ vs,H a=Wv (.lst vs))\/ ∃ kws,H a=Wv (.dK kws):=by
 cases o with
 | lst xs=>obtain⟨vs,e,_⟩:=r;exact .inl ⟨vs,e⟩
 | kZ xs=>cases m
 | dct kvs=>obtain⟨kws,e,_⟩:=r;exact .inr ⟨kws,e⟩
theorem nI(g:Gr ρ H ρ' H')(k:o.dz=true->H' a=H a)(r:nE K ρ H a o):nE K ρ' H' a o:=by
 cases o with
 | lst xs=>obtain⟨vs,e,r⟩:=r;exact⟨vs,(k rfl).trans e,ao.gr g _ _ r⟩
 | kZ xs=>obtain ⟨vs,e,r⟩:=r;exact ⟨vs,g.Wh e,ao.gr g _ _ r⟩
 | dct kvs=>obtain ⟨kws,e,r⟩:=r;exact ⟨kws,(k rfl).trans e,Paired.jX g r⟩
theorem Gr.new{p : W2}{o : HO}(hp : H p = Wx)(l : List W2) : Gr ρ H (ρ ++ l) (upd H p o) :=
  ⟨λn a e => by rw [Xu (WA.mp e).1]; exact e,
   λa xs e => by rw [ax (av e hp)]; exact e, λa o u e => by rw [ax (av e hp)]; exact e⟩
theorem Gr.xE{p:W2}{o:HO}(hp:H p=Wx):Gr ρ H ρ (upd H p o):=by simpa using Gr.new (ρ := ρ) (o:=o) hp []
theorem cY.tup(s:cY K ρ h H){p o}(hp:H p=Wx):cY K ρ h (upd H p o) :=
 ⟨s.len,s.nd,λi x a e1 e2=>nI (Gr.xE hp) (λm=>by
  have:=jm m (s.ob i x a e1 e2);refine ax ?_;rcases this with⟨_,z⟩ | ⟨_,z⟩<;>exact av z hp) (s.ob i x a e1 e2)⟩
theorem cY.new(s:cY K ρ h H)(hp:H p=Wx)(r:nE K (ρ ++[p]) (upd H p ho) p o):cY K (ρ ++[p]) (h++[o]) (upd H p ho):=by
 have g:Gr ρ H (ρ ++[p]) (upd H p ho):=Gr.new hp [p];have old: ∀{i:Nat}{x:PO},(h++[o])[i]?=Wv x->(i < h.length/\h[i]?=Wv x)\/(i=h.length/\x=o):=λ{i x} e=>by
  rcases Y0 i h.length with z | z
  . rw[Xu z] at e;exact .inl ⟨z,e⟩
  . rw[Xe z] at e;have:i - h.length=0:=by
     rcases Nat.eq_zero_or_pos (i - h.length) with y | y
     . exact y
     . rw[Yj (by simp;omega)] at e;nomatch e
    rw[this] at e;exact .inr ⟨by omega,by simpa using e.symm⟩
 have oldρ : ∀{i:Nat}{a:W2},i < h.length->(ρ ++[p])[i]?=Wv a-> ρ[i]?=Wv a:=λ{i a} z e=>by
  rw[Xu (by rw[s.len];exact z)] at e;exact e
 have newρ : ∀{a:W2},(ρ ++[p])[h.length]?=Wv a->a=p:=λ{a} e=>by
  rw[<- s.len,Xe (WG _)] at e;simpa using e.symm
 refine⟨by simp[s.len],λi j a oi oj ei ej mi mj ri rj=>?_,λi x a e1 e2=>?_⟩
 . rcases old ei with⟨zi,ei⟩ | ⟨zi,ei⟩<;>rcases old ej with⟨zj,ej⟩ | ⟨zj,ej⟩
   . exact s.nd i j a oi oj ei ej mi mj (oldρ zi ri) (oldρ zj rj)
   . subst zj;have:=jm mi (s.ob i oi a ei (oldρ zi ri));rw[newρ rj] at this;rcases this with⟨_,z⟩ | ⟨_,z⟩<;>(rw[hp] at z;nomatch z)
   . subst zi;have:=jm mj (s.ob j oj a ej (oldρ zj rj));rw[newρ ri] at this;rcases this with⟨_,z⟩ | ⟨_,z⟩<;>(rw[hp] at z;nomatch z)
   . rw[zi,zj]
 . rcases old e1 with⟨z,e⟩ | ⟨z,e⟩
   . refine nI g (λm=>?_) (s.ob i x a e (oldρ z e2));have:=jm m (s.ob i x a e (oldρ z e2));refine ax ?_;rcases this with ⟨_,y⟩ | ⟨_,y⟩<;>exact av y hp
   . subst z;subst e;rw [newρ e2];exact r
theorem Gr.write{a : W2}{ho : HO}(m : (∃ vs, H a = Wv (.lst vs)) ∨ ∃ kws, H a = Wv (.dK kws)) : Gr ρ H ρ (upd H a ho) :=
  ⟨fun _ _ h => h, fun b xs e => by rw [ax]; · exact e
                                    . rintro rfl; rcases m with ⟨_, z⟩ | ⟨_, z⟩ <;> (rw [e] at z; cases z),
   fun b o u e => by rw [ax]; · exact e
                     . rintro rfl; rcases m with ⟨_, z⟩ | ⟨_, z⟩ <;> (rw [e] at z; cases z)⟩
theorem cY.write(s:cY K ρ h H)(e:h[i]?=Wv o)(ea: ρ[i]?=Wv a)(m:o.dz=true)(m':o'.dz=true)(r:nE K ρ (upd H a ho) a o') :
  cY K ρ (h.set i o') (upd H a ho):=by
 have ma:=jm m (s.ob i o a e ea);have g:Gr ρ H ρ (upd H a ho):=Gr.write ma;have hi:=(WA.mp e).1;have at_: ∀{j:Nat}{x:PO},(h.set i o')[j]?=Wv x->(j=i/\x=o')\/(j≠i/\h[j]?=Wv x):=λ{j x} q=>by
  by_cases z:j=i
  . subst z;rw[Xo hi] at q;exact .inl ⟨rfl,by simpa using q.symm⟩
  . rw[XS (Za z)] at q;exact .inr ⟨z,q⟩
 refine⟨by simp[s.len],λj k b oj ok ej ek mj mk rj rk=>?_,λj x b e1 e2=>?_⟩
 . rcases at_ ej with⟨zj,_⟩ | ⟨_,ej2⟩<;>rcases at_ ek with⟨zk,_⟩ | ⟨_,ek2⟩
   . rw[zj,zk]
   . rw[zj] at rj ⊢; exact s.nd _ _ b o ok e ek2 m mk rj rk
   . rw[zk] at rk ⊢; exact s.nd _ _ b oj o ej2 e mj m rj rk
   . exact s.nd j k b oj ok ej2 ek2 mj mk rj rk
 . rcases at_ e1 with⟨rfl,rfl⟩ | ⟨z,e1⟩
   . rw[ea] at e2;cases e2;exact r
   . refine nI g (λmx=>ax λq=>z ?_) (s.ob j x b e1 e2);subst q;exact s.nd j i b x o e1 e mx m e2 ea
end
inductive RV(α :Type) where
 | ok (a: α) (h:PH) | ex (c:String) (vs:List PV) (h:PH) | no
variable{α β :Type}
noncomputable def RV.bind:RV α ->(α ->PH->RV β)->RV β
 | .ok a h,f=>f a h
 | .ex c vs h,_=> .ex c vs h
 | .no,_=> .no
theorem dm:(RV.ok a h).bind f=f a h:=rfl
theorem bind_eq{r:RV α}:r.bind f= .ok b h'↔ ∃ a h,r= .ok a h/\f a h= .ok b h':=by
 cases r with
 | ok a h=>exact⟨λe=>⟨a,h,rfl,e⟩,by rintro ⟨a',h2,e,q⟩;exact by cases e;exact q⟩
 | ex c vs h=>exact⟨λe=>(by cases e),by rintro ⟨_,_,e,_⟩;exact(by cases e)⟩
 | no=>exact⟨λe=>(by cases e),by rintro ⟨_,_,e,_⟩;exact(by cases e)⟩
theorem Et[Decidable c]{ b:RV α}:(if c then a else b).bind f=if c then a.bind f else b.bind f:=by split<;>rfl
def Ok(r:RV α)(Q: α ->PH->Prop):= ∃ a h,r= .ok a h/\Q a h
abbrev CF:=String->List PV->PH->RV PV
abbrev ME:=CF->aQ->PH->RV PV
abbrev MT:=CF->aQ->PH->RV Bool
abbrev MA:=CF->aQ->PH->RV (List PV)
inductive Fl where
 | nx (e:aQ) | rt (v:PV) | bk (e:aQ) | ct (e:aQ)
abbrev MS:=CF->aQ->PH->RV Fl
abbrev MG:=PV->aQ->PH->RV aQ
structure uj where
 gd:Option Nat
 items:List PV
abbrev MI:=CF->aQ->PH->RV uj
structure Df where
 ps:List Str
 nl:Nat
 body:MS
structure Tb where
 fns:String->Option Df
 con:Str->Option PV
 xG:Str->Option (List (Key × PV))
def bY(n:Nat):PH->PH->Bool
 | [],_=>true
 | _::_,[]=>false
 | o::h,o'::h'=>(decide (o=o')||(o'.hX n&&o.dz == o'.dz))&&bY n h h'
def settle(h:PH)(v:PV)(h':PH):RV PV:=if (v.flat&&bY h.length h h')=true then .ok v (h'.take h.length) else .ok v h'
theorem kI n: ∀ h g,bY n h (h++g)=true
 | [],g=>rfl
 | o::h,g=>by rw[Yf,bY,kI n h g];simp
theorem pD(hu:o'.hX n=true): ∀ h h' i o,bY n h h'=true->h[i]?=Wv o->o.dz=o'.dz->bY n h (h'.set i o')=true
 | [],h',i,o,_,e,_=>by simp at e
 | a::h,[],i,o,q,_,_=>by simp[bY] at q
 | a::h,b::h',0,o,q,e,m=>by
  rw[bY,WX] at q;simp at e;subst e;rw[aam,bY,q.2,hu,m];simp
 | a::h,b::h',i+1,o,q,e,m=>by
  rw[bY,WX] at q;rw[List.set_cons_succ,bY,pD hu h h' i o q.2 (by simpa using e) m,q.1];rfl
theorem p7: ∀{h h'},bY n h h'=true->h.length<=h'.length
 | [],h',_=>Xv _
 | o::h,[],e=>by simp[bY] at e
 | o::h,o'::h',e=>by
  rw[bY,WX] at e;exact ab2 (p7 e.2)
theorem sY: ∀{h h'}{i:Nat}{o'},bY n h h'=true->(h'.take h.length)[i]?=Wv o'-> ∃ o,h[i]?=Wv o/\o.dz=o'.dz/\(o=o'\/o'.hX n=true)
 | [],h',i,o',_,e=>by simp at e
 | a::h,[],i,o',q,_=>by simp[bY] at q
 | a::h,b::h',0,o',q,e=>by
  rw[bY,WX,ZC,WX] at q;simp at e;subst e;refine⟨a,rfl,?_,?_⟩
  . rcases q.1 with z | z
    . rw[of_decide_eq_true z]
    . simpa using z.2
  . rcases q.1 with z | z
    . exact .inl (of_decide_eq_true z)
    . exact .inr z.1
 | a::h,b::h',i+1,o',q,e=>by
  rw[bY,WX] at q;simpa using sY q.2 (by simpa using e)
def run(pg:Tb):Nat->CF
 | 0,_,_,_=> .no
 | k+1,f,vs,h=>match pg.fns f with
  | none=> .no
  | some d=>if vs.length=d.ps.length then
    (match d.body (run pg k) (vs.map Wv++WO d.nl Wx) h with
    | .ok (.rt v) h'=>settle h v h'
    | .ok (.nx _) h'=>settle h .non h'
    | .ok _ _=> .no
    | .ex c us h'=> .ex c us h'
    | .no=> .no)
   else .no
def d7(K:Wz)(ρ :List W2) H v h' (Q:VK):= ∀ v' ρ' H',Gr ρ H ρ' H'->cY K ρ' h' H'->rel K ρ' H' v v'->Q v' H'
def oh(K:Wz)(ρ :List W2) H h' (Q:Hp->Prop):= ∀ ρ' H',Gr ρ H ρ' H'->cY K ρ' h' H'->Q H'
def SV(K:Wz)(ρ :List W2) H (vs:List PV) h' (Q:List V->Hp->Prop):= ∀ us ρ' H',Gr ρ H ρ' H'->cY K ρ' h' H'->ao K ρ' H' vs us->Q us H'
structure d6 (K:Wz) (ρ :List W2) (H:Hp) (e:aQ) (σ :L2.St):Prop where
 len:e.length= σ.length
 get: ∀(i:Nat)(v:PV),e[i]?=Wv (Wv v)-> ∃ v', σ[i]?=Wv (Wv v')∧rel K ρ H v v'
def gj(K:Wz)(ρ :List W2) H e' h' (Q:L2.St->Hp->Prop):= ∀ σ' ρ' H',Gr ρ H ρ' H'->cY K ρ' h' H'->d6 K ρ' H' e' σ'->Q σ' H'
def Ay(K:Wz)(ρ :List W2)(H:Hp)(D:Ends)(h':PH):Fl->Prop
 | .nx e=>gj K ρ H e h' D.nx
 | .bk e=>gj K ρ H e h' D.bk
 | .ct e=>gj K ρ H e h' D.ct
 | .rt v=>d7 K ρ H v h' D.rt
section
variable{K:Wz}{ρ ρ1:List W2}{H H1:Hp}{h':PH}
theorem d6.gr(r:d6 K ρ H e σ)(g:Gr ρ H ρ1 H1):d6 K ρ1 H1 e σ :=⟨r.len,λi v q=>by obtain⟨v',a,b⟩:=r.get i v q;exact⟨v',a,rel.gr g _ _ b⟩⟩
theorem d6.set(r:d6 K ρ H e σ) i (h:rel K ρ H v v'):d6 K ρ H (e.set i (Wv v)) (σ.set i (Wv v')):=by
 refine⟨by simp[r.len],λj x q=>?_⟩;by_cases z:j=i
 . subst z;have hj:j < e.length:=by
    have:=(WA.mp q).1;simpa using this
   rw[Xo hj] at q;cases q;exact⟨v',Xo (by rw[<- r.len];exact hj),h⟩
 . rw[XS (Za z)] at q ⊢;exact r.get j x q
theorem d6.more(r:d6 K ρ H e σ) k:d6 K ρ H (e++WO k Wx) (σ ++WO k Wx):=by
 refine⟨by simp[r.len],λj x q=>?_⟩;rcases Y0 j e.length with z | z
 . rw[Xu z] at q;rw[Xu (by rw[<- r.len];exact z)];exact r.get j x q
 . rw[Xe z,Zl] at q;split at q<;>nomatch q
theorem d7.gr(p:d7 K ρ H v h' Q)(g:Gr ρ H ρ1 H1):d7 K ρ1 H1 v h' Q:=λv' ρ' H' g'=>p v' ρ' H' (g.trans g')
theorem oh.gr(p:oh K ρ H h' Q)(g:Gr ρ H ρ1 H1):oh K ρ1 H1 h' Q:=fun ρ' H' g'=>p ρ' H' (g.trans g')
theorem gj.gr(p:gj K ρ H e h' Q)(g:Gr ρ H ρ1 H1):gj K ρ1 H1 e h' Q:=λv' ρ' H' g'=>p v' ρ' H' (g.trans g')
theorem Ay.gr(p:Ay K ρ H D h' f)(g:Gr ρ H ρ1 H1):Ay K ρ1 H1 D h' f:=by
 cases f with
 | nx e=>exact gj.gr p g
 | bk e=>exact gj.gr p g
 | ct e=>exact gj.gr p g
 | rt e=>exact d7.gr p g
end
def SE c (K:Wz) (t:TE) (m:ME):= ∀ ρ h H e σ Q v h',cY K ρ h H->d6 K ρ H e σ ->m c e h= .ok v h'->d7 K ρ H v h' Q->t σ H Q
def ST c (K:Wz) (t:TT) (m:MT):= ∀ ρ h H e σ Q b h',cY K ρ h H->d6 K ρ H e σ ->m c e h= .ok b h'->oh K ρ H h' (Q b)->t σ H Q
def SA c (K:Wz) (t:TA) (m:MA):= ∀ ρ h H e σ Q vs h',cY K ρ h H->d6 K ρ H e σ ->m c e h= .ok vs h'->SV K ρ H vs h' Q->t σ H Q
def SS c (K:Wz) (t:TS) (m:MS):= ∀ ρ h H e σ D f h',cY K ρ h H->d6 K ρ H e σ ->m c e h= .ok f h'->Ay K ρ H D h' f->t D σ H
def SG(K:Wz)(t:TG)(m:MG):= ∀ ρ h H e σ Q v v' e' h',cY K ρ h H->d6 K ρ H e σ ->rel K ρ H v v'->m v e h= .ok e' h'->gj K ρ H e' h' Q->t v' σ H Q
noncomputable def uj.kC(it:uj)(h:PH):Bool:=match it.gd with
 | none=>true
 | some n=>decide (h[n]?=Wv (.lst it.items)\/h[n]?=Wv (.kZ it.items))
def VO(K:Wz)(ρ0:List W2) H0 (J:It) (it:uj):= ∀ i ρ h H,Gr ρ0 H0 ρ H->cY K ρ h H->it.kC h=true ->
 (∀ x,it.items[i]?=Wv x->J.go i H∧ ∀ v H',J.Kz i H v H'-> ∃ ρ',Gr ρ H ρ' H'∧cY K ρ' h H'∧rel K ρ' H' x v)∧(i=it.items.length->J.stop i H)
def SI c (K:Wz) (t:TI) (m:MI):= ∀ ρ h H e σ R it h',cY K ρ h H->d6 K ρ H e σ ->m c e h= .ok it h'->(∀ ρ' H' J,Gr ρ H ρ' H'->cY K ρ' h' H'->VO K ρ' H' J it->R J H')->t σ H R
def yz(K:Wz)(pg:Tb)(k:Nat)(f:String):Sp:=λvs H Q _=> ∃ ρ h args v h',cY K ρ h H∧ao K ρ H args vs∧run pg k f args h= .ok v h'∧d7 K ρ H v h' Q
noncomputable def iE:List Str:=["len", "range", "isinstance", "int", "bool", "tuple", "dict", "sorted", "min", "max", "abs", "all", "any", "sum", "str", "list", "zip", "set", "repr", "enumerate"]
def Cw(K:Wz)(v:V):= ∀ a,v= .ref a-> ∃ o,K.lookup a=Wv o∧o.cls= .type "tuple" ∧o.dict=Wx
structure cX (X:Cx) (pg:Tb) (k:Nat):Prop where
 room:dH k X.A
 calm:X.calm=true
 wq: ∀ v s,¬ X.xe v s
 defs: ∀ f d,pg.fns f=Wv d->nZ X.prog X.w X.K X.mg X.base (WU f) k d.ps (yz X.K pg k f)
 blt: ∀ x∈iE,X.mg x=Wx
 con: ∀ x v,pg.con x=Wv v-> ∃ u v',X.mg x=Wv u/\RelV v' u/\Cw X.K v'/\ ∀ ρ H,rel X.K ρ H v v'
 xG: ∀ x kvs,pg.xG x=Wv kvs-> ∃ a kws,X.mg x=Wv (.ref a)/\KD X.prog X.w X.K a kws/\ ∀ ρ H,XZ (λ(p:Key × PV) (q:Key × V)=>p.1=q.1/\rel X.K ρ H p.2 q.2) kvs kws
theorem cX.fK(a:cX X pg k) vars scope cl C s₀ H₀ ex pn:cX (fK X vars scope cl C s₀ H₀ ex pn) pg k :=
 ⟨a.room,a.calm,a.wq,a.defs,a.blt,a.con,a.xG⟩
structure JE(X:Cx)(pg:Tb)(k:Nat)(e:XH)(m:ME):Prop where h:cX X pg k-> ∃ t,QE X e t/\SE (run pg k) X.K t m
structure JT(X:Cx)(pg:Tb)(k:Nat)(e:XH)(m:MT):Prop where h:cX X pg k-> ∃ t,QT X e t/\ST (run pg k) X.K t m
structure JW(X:Cx)(pg:Tb)(k:Nat)(e:XH)(m:MT):Prop where h:cX X pg k-> ∃ t,QW X e t/\ST (run pg k) X.K t m
structure JA(X:Cx)(pg:Tb)(k:Nat)(e:List XH)(m:MA):Prop where h:cX X pg k-> ∃ t,QA X e t/\SA (run pg k) X.K t m
structure JS(X:Cx)(pg:Tb)(k:Nat)(s:acC)(m:MS):Prop where h:cX X pg k-> ∃ t,QS X s t/\SS (run pg k) X.K t m
structure BR(X:Cx)(pg:Tb)(k:Nat)(s:List acC)(m:MS):Prop where h:cX X pg k-> ∃ t,Dg X s t/\SS (run pg k) X.K t m
structure JG(X:Cx)(pg:Tb)(k:Nat)(e:XH)(m:MG):Prop where h:cX X pg k-> ∃ t,QG X e t/\SG X.K t m
structure JI(X:Cx)(pg:Tb)(k:Nat)(tg e:XH)(m:MI):Prop where h:cX X pg k-> ∃ t,QI X tg e t/\SI (run pg k) X.K t m
structure JF(X:Cx)(pg:Tb)(k:Nat)(es:List XH)(m:MT):Prop where h:cX X pg k-> ∃ t,QF X es t/\ST (run pg k) X.K t m
def oy(K:Wz)(r:R2)(f:PV->PV->PH->RV PV):= ∀ ρ h H x y x' y' Q v h',cY K ρ h H->rel K ρ H x x'->rel K ρ H y y'->f x y h= .ok v h'->d7 K ρ H v h' Q->r x' y' H Q
def AY(K:Wz)(r:List V->Hp->VK->Prop)(f:List PV->PH->RV PV):= ∀ ρ h H xs us Q v h',cY K ρ h H->ao K ρ H xs us->f xs h= .ok v h'->d7 K ρ H v h' Q->r us H Q
def T6(K:Wz)(T:String)(r:V->List V->Hp->VK->Prop)(f:PV->List PV->PH->RV PV)(ty:PV->PH->Bool) :=
 (∀ ρ h H x x',cY K ρ h H->rel K ρ H x x'->ty x h=true->Ua K T x' H) /\
 ∀ ρ h H x x' xs us Q v h',cY K ρ h H->rel K ρ H x x'->ao K ρ H xs us->f x xs h= .ok v h'->d7 K ρ H v h' Q->r x' us H Q
noncomputable def aa(i:Nat):ME:=λ_ e h=>match e[i]? with
 | some (Wv v)=> .ok v h
 | _=> .no
noncomputable def eC(v:PV):ME:=λ_ _ h=> .ok v h
def aj(f:PV->PV->PH->RV PV)(a b:ME):ME:=λc e h=>(a c e h).bind λx h1=>(b c e h1).bind λy h2=>f x y h2
def xR(f:PV->PH->RV PV)(a:ME):ME:=λc e h=>(a c e h).bind f
noncomputable def vq(v:PV)(h:PH):RV Bool:=match v with
 | .bl b=> .ok b h
 | _=> .no
def BF(a b:ME):ME:=λc e h=>((a c e h).bind vq).bind λx h1=>if x=true then b c e h1 else .ok (.bl false) h1
def Rt(a b:ME):ME:=λc e h=>((a c e h).bind vq).bind λx h1=>if x=true then .ok (.bl true) h1 else b c e h1
def Ka(a:ME):ME:=λc e h=>((a c e h).bind vq).bind λx h1=> .ok (.bl (!x)) h1
def vt(t:MT)(a b:ME):ME:=λc e h=>(t c e h).bind λx h1=>if x=true then a c e h1 else b c e h1
def aF(a:ME):MT:=λc e h=>(a c e h).bind vq
def lT(a b:MT):MT:=λc e h=>(a c e h).bind λx h1=>if x=true then b c e h1 else .ok false h1
def HV(a b:MT):MT:=λc e h=>(a c e h).bind λx h1=>if x=true then .ok true h1 else b c e h1
def nF(a:MT):MT:=λc e h=>(a c e h).bind λx h1=> .ok (!x) h1
noncomputable def aN:MT:=λ_ _ h=> .ok true h
noncomputable def ah:MA:=λ_ _ h=> .ok [] h
def ab(a:ME)(r:MA):MA:=λc e h=>(a c e h).bind λx h1=>(r c e h1).bind λxs h2=> .ok (x::xs) h2
noncomputable def mW n (r:RV α):=if n<=WJ then r else .no
def aq(r:MA):ME:=λc e h=>(r c e h).bind λxs h1=>mW xs.length (.ok (.tup xs) h1)
def bD(r:MA):ME:=λc e h=>(r c e h).bind λxs h1=>mW xs.length (.ok (.ref h1.length) (h1++[.lst xs]))
def ag(f:String)(r:MA):ME:=λc e h=>(r c e h).bind λxs h1=>c f xs h1
def eB(f:List PV->PH->RV PV)(r:MA):ME:=λc e h=>(r c e h).bind f
def eM(f:PV->List PV->PH->RV PV)(ty:PV->PH->Bool)(a:ME)(r:MA):ME:=λc e h=>(a c e h).bind λx h1=>if ty x h1=true then(r c e h1).bind λxs h2=>f x xs h2 else .no
def t5(f g:PV->PV->PH->RV PV)(a b d:ME):ME:=λc e h=>(a c e h).bind λx h1=>(b c e h1).bind λy h2=>((f x y h2).bind vq).bind λk h3=>if k=true then(d c e h3).bind λz h4=>g y z h4 else .ok (.bl false) h3
theorem kW:mW n r= .ok a h↔n<=WJ/\r= .ok a h:=by
 unfold mW;split
 . exact⟨λe=>⟨by assumption,e⟩,λe=>e.2⟩
 . exact⟨λe=>(by cases e),λe=>absurd e.1 (by assumption)⟩
theorem ql:vq v h= .ok b h'↔v= .bl b/\h'=h:=by
 cases v<;>simp[vq,eq_comm]
section
variable{X:Cx}{pg:Tb}{k:Nat}{a b c d e:XH}{es:List XH}{ma mb mc md:ME}{mr:MA}{mt mt':MT}{pos p pos' apos cpos:Pos}{x:Str}
theorem OJ i (hN:X.N[i]?=Wv x:=by rfl) (hv:Qg X.env.scope x:=by first | exact ad5 rfl | exact acS (ad5 rfl) | exact acS (acS rfl)) (hd:(x == ("__debug__"))=false:=by decide)
  (hcd:(x == ("__classdict__"))=false:=by decide):JE X pg k (.Name x pos) (aa i):=⟨λA=>⟨_,qv i hN hv hd hcd,fun ρ h H e σ Q v h' s r q P=>by
 unfold aa at q;split at q
 . cases q;obtain⟨v',e1,e2⟩:=r.get i v (by assumption);exact⟨v',e1,P v' ρ H (.refl _ _) s e2⟩
 . cases q⟩⟩
theorem BY{K}(hr: ∀ ρ H,rel K ρ H v v'):SE cf K (tC v') (eC v):=fun ρ h H e σ Q w h' s r q P=>by cases q;exact P v' ρ H (.refl _ _) s (hr ρ H)
theorem OH:JE X pg k (.Constant (.int n) j pos) (eC (.int n)):=⟨λA=>⟨_,OE,BY fun ρ H=>by rw[rel]⟩⟩
theorem Tp:JE X pg k (.Constant (.bool n) j pos) (eC (.bl n)):=⟨λA=>⟨_,Rb,BY fun ρ H=>by rw[rel]⟩⟩
theorem Nh:JE X pg k (.Constant .none j pos) (eC .non):=⟨λA=>⟨_,OD,BY fun ρ H=>by rw[rel]⟩⟩
theorem Ou:JE X pg k (.Constant (.str n) j pos) (eC (.str n)):=⟨λA=>⟨_,M4,BY fun ρ H=>by rw[rel]⟩⟩
theorem Oy(hc:pg.con x=Wv v)(hg:Gl X x)(hd:(x == ("__debug__"))=false:=by decide):JE X pg k (.Name x pos) (eC v):=⟨λA=>by obtain⟨u,v',e1,e2,_,e3⟩:=A.con x v hc;exact⟨_,Aa hg e1 e2 hd,BY e3⟩⟩
theorem wR(hg:Gl X x)(hb:x∈iE)(hv:Yc x=Wv (.type T))(hn:x≠ "__name__" :=by decide)(hd:(x == ("__debug__"))=false:=by decide):JE X pg k (.Name x pos) (eC (.ty T)) :=
 ⟨λA=>⟨_,Kk (v:= .ty T) hg (A.blt x hb) hv rfl hn hd,BY fun ρ H=>by rw[rel]⟩⟩
theorem AE{K}(ho:oy K r f)(ha:SE cf K ta ma)(hb:SE cf K tb mb):SE cf K (Je r ta tb) (aj f ma mb):=fun ρ h H e σ Q v h' s r q P=>by
 obtain⟨x,h1,e1,q⟩:=bind_eq.mp q;obtain⟨y,h2,e2,q⟩:=bind_eq.mp q;refine ha ρ h H e σ _ x h1 s r e1 λx' ρ1 H1 g1 s1 r1=>?_;refine hb ρ1 h1 H1 e σ _ y h2 s1 (r.gr g1) e2 λy' ρ2 H2 g2 s2 r2=>?_;exact ho ρ2 h2 H2 x y x' y' Q v h' s2 (rel.gr g2 _ _ r1) r2 q (P.gr (g1.trans g2))
theorem Tz(ho:cX X pg k-> ∃ r,cZ X (Yg op) r/\oy X.K r f)(ha:JE X pg k a ma)(hb:JE X pg k b mb):JE X pg k (.BinOp a op b pos) (aj f ma mb):=⟨λA =>
 let ⟨_,q1,s1⟩:=ha.h A;let ⟨_,q2,s2⟩:=hb.h A;by obtain⟨_,q,s⟩:=ho A;exact⟨_,Tu q q1 q2,AE s s1 s2⟩⟩
theorem FV(ho:cX X pg k-> ∃ r,cZ X (Xh op) r/\oy X.K r f)(ha:JE X pg k a ma)(hb:JE X pg k b mb)(hm:Yl op b=false):JE X pg k (.Compare a [op] [b] pos) (aj f ma mb):=⟨λA =>
 let ⟨_,q1,s1⟩:=ha.h A;let ⟨_,q2,s2⟩:=hb.h A;by obtain⟨_,q,s⟩:=ho A;exact⟨_,Iv q q1 q2 hm,AE s s1 s2⟩⟩
theorem uc{K}(ha:SE cf K ta ma):ST cf K (FO ta) (aF ma):=fun ρ h H e σ Q v h' s r q P=>by
 obtain⟨x,h1,e1,q⟩:=bind_eq.mp q;obtain⟨rfl,rfl⟩:=ql.mp q;refine ha ρ h H e σ _ _ _ s r e1 λx' ρ1 H1 g1 s1 r1=>?_;exact⟨v,r1,P ρ1 H1 g1 s1⟩
theorem Eh(ho:cX X pg k-> ∃ r,cZ X (Xh op) r/\oy X.K r f)(ha:JE X pg k a ma)(hb:JE X pg k b mb)(hm:Yl op b=false):JT X pg k (.Compare a [op] [b] pos) (aF (aj f ma mb)):=⟨λA =>
 let ⟨_,q1,s1⟩:=ha.h A;let ⟨_,q2,s2⟩:=hb.h A;by obtain⟨_,q,s⟩:=ho A;exact⟨_,Hu q q1 q2 hm,uc (AE s s1 s2)⟩⟩
theorem Nr(ha:JE X pg k e ma)(he: ∀ whole,adZ e X.env whole=(do let v <- whole;aer e.pos;aau [v] (truthy v)):=by intro _;rfl):JT X pg k e (aF ma):=⟨λA =>
 by obtain⟨_,q1,s1⟩:=ha.h A;exact⟨_,Nq q1 he,uc s1⟩⟩
theorem Mj(ha:JE X pg k a ma):JE X pg k (.UnaryOp .Not a pos) (Ka ma):=⟨λA =>
 by obtain⟨_,q1,s1⟩:=ha.h A;exact⟨_,Ng q1,fun ρ h H e σ Q v h' s r q P=>by
  obtain⟨x,h2,q2,q⟩:=bind_eq.mp q;obtain⟨y,h1,e1,q2⟩:=bind_eq.mp q2;obtain⟨rfl,rfl⟩:=ql.mp q2;cases q;refine s1 ρ h H e σ _ _ _ s r e1 λx' ρ1 H1 g1 z1 r1=>?_;exact⟨x,r1,P _ ρ1 H1 g1 z1 (by rw[rel])⟩⟩⟩
theorem LP(h:JE X pg k a ma):JE X pg k (.BoolOp op [a] pos) ma:=⟨λA=>by obtain⟨_,q1,s1⟩:=h.h A;exact⟨_,NK q1,s1⟩⟩
theorem PQ{rest}(ha:JE X pg k a ma)(hb:JE X pg k (.BoolOp .And (b::rest) pos) mb):JE X pg k (.BoolOp .And (a::b::rest) pos) (BF ma mb):=⟨λA =>
 by obtain⟨_,q1,s1⟩:=ha.h A;exact by obtain⟨_,q2,s2⟩:=hb.h A;exact⟨_,Mf q1 q2,fun ρ h H e σ Q v h' s r q P=>by
  obtain⟨x,h2,q2,q⟩:=bind_eq.mp q;obtain⟨y,h1,e1,q2⟩:=bind_eq.mp q2;obtain⟨rfl,rfl⟩:=ql.mp q2;refine s1 ρ h H e σ _ _ _ s r e1 λx' ρ1 H1 g1 z1 r1=>?_;refine⟨x,r1,?_⟩;cases x with
  | true=>exact s2 ρ1 _ H1 e σ _ _ _ z1 (r.gr g1) q (P.gr g1)
  | false=>cases q;exact P _ ρ1 H1 g1 z1 (by rw[rel])⟩⟩
theorem Sn{rest}(ha:JE X pg k a ma)(hb:JE X pg k (.BoolOp .Or (b::rest) pos) mb):JE X pg k (.BoolOp .Or (a::b::rest) pos) (Rt ma mb):=⟨λA =>
 by obtain⟨_,q1,s1⟩:=ha.h A;exact by obtain⟨_,q2,s2⟩:=hb.h A;exact⟨_,Tt q1 q2,fun ρ h H e σ Q v h' s r q P=>by
  obtain⟨x,h2,q2,q⟩:=bind_eq.mp q;obtain⟨y,h1,e1,q2⟩:=bind_eq.mp q2;obtain⟨rfl,rfl⟩:=ql.mp q2;refine s1 ρ h H e σ _ _ _ s r e1 λx' ρ1 H1 g1 z1 r1=>?_;refine⟨x,r1,?_⟩;cases x with
  | false=>exact s2 ρ1 _ H1 e σ _ _ _ z1 (r.gr g1) q (P.gr g1)
  | true=>cases q;exact P _ ρ1 H1 g1 z1 (by rw[rel])⟩⟩
theorem DW(hc:JT X pg k c mt)(ha:JE X pg k a ma)(hb:JE X pg k b mb):JE X pg k (.IfExp c a b pos) (vt mt ma mb):=⟨λA =>
 by obtain⟨_,q0,s0⟩:=hc.h A;exact let ⟨_,q1,s1⟩:=ha.h A;let ⟨_,q2,s2⟩:=hb.h A;⟨_,DU q0 q1 q2,fun ρ h H e σ Q v h' s r q P=>by
  obtain⟨x,h1,e1,q⟩:=bind_eq.mp q;refine s0 ρ h H e σ _ _ _ s r e1 fun ρ1 H1 g1 z1=>?_;cases x with
  | true=>exact s1 ρ1 _ H1 e σ _ _ _ z1 (r.gr g1) q (P.gr g1)
  | false=>exact s2 ρ1 _ H1 e σ _ _ _ z1 (r.gr g1) q (P.gr g1)⟩⟩
theorem HL(ha:JT X pg k a mt):JW X pg k (.BoolOp .And [a] pos) mt:=⟨λA=>by obtain⟨_,q1,s1⟩:=ha.h A;exact⟨_,Kf q1,s1⟩⟩
theorem MK(ha:JT X pg k a mt):JW X pg k (.BoolOp .Or [a] pos) mt:=⟨λA=>by obtain⟨_,q1,s1⟩:=ha.h A;exact⟨_,Mu q1,s1⟩⟩
theorem Fs{rest}(ha:JT X pg k a mt)(hb:JW X pg k (.BoolOp .And (b::rest) pos) mt'):JW X pg k (.BoolOp .And (a::b::rest) pos) (lT mt mt'):=⟨λA =>
 by obtain⟨_,q1,s1⟩:=ha.h A;exact by obtain⟨_,q2,s2⟩:=hb.h A;exact⟨_,Me q1 q2,fun ρ h H e σ Q v h' s r q P=>by
  obtain⟨x,h1,e1,q⟩:=bind_eq.mp q;refine s1 ρ h H e σ _ _ _ s r e1 fun ρ1 H1 g1 z1=>?_;cases x with
  | true=>exact s2 ρ1 _ H1 e σ _ _ _ z1 (r.gr g1) q (P.gr g1)
  | false=>cases q;exact P ρ1 H1 g1 z1⟩⟩
theorem KJ{rest}(ha:JT X pg k a mt)(hb:JW X pg k (.BoolOp .Or (b::rest) pos) mt'):JW X pg k (.BoolOp .Or (a::b::rest) pos) (HV mt mt'):=⟨λA =>
 by obtain⟨_,q1,s1⟩:=ha.h A;exact by obtain⟨_,q2,s2⟩:=hb.h A;exact⟨_,SY q1 q2,fun ρ h H e σ Q v h' s r q P=>by
  obtain⟨x,h1,e1,q⟩:=bind_eq.mp q;refine s1 ρ h H e σ _ _ _ s r e1 fun ρ1 H1 g1 z1=>?_;cases x with
  | false=>exact s2 ρ1 _ H1 e σ _ _ _ z1 (r.gr g1) q (P.gr g1)
  | true=>cases q;exact P ρ1 H1 g1 z1⟩⟩
theorem JW.pt(h:JW X pg k e mt):JT X pg k e mt:=⟨λA=>by obtain⟨_,q1,s1⟩:=h.h A;exact⟨_,q1.pt,s1⟩⟩
theorem P8(ha:JT X pg k a mt):JT X pg k (.UnaryOp .Not a pos) (nF mt):=⟨λA=>by obtain⟨_,q1,s1⟩:=ha.h A;exact⟨_,Oo q1,fun ρ h H e σ Q v h' s r q P=>by
  obtain⟨x,h1,e1,q⟩:=bind_eq.mp q;cases q;exact s1 ρ h H e σ _ _ _ s r e1 fun ρ1 H1 g1 z1=>P ρ1 H1 g1 z1⟩⟩
theorem PY:JF X pg k [] aN:=⟨λA=>⟨_,Mz,fun ρ h H e σ Q v h' s r q P=>by cases q;exact P ρ H (.refl _ _) s⟩⟩
theorem Ol(h:JT X pg k c mt):JF X pg k [c] mt:=⟨λA=>by obtain⟨_,q1,s1⟩:=h.h A;exact⟨_,L0 q1,s1⟩⟩
theorem O9:JA X pg k [] ah:=⟨λA=>⟨_,uS,fun ρ h H e σ Q v h' s r q P=>by cases q;exact P [] ρ H (.refl _ _) s (cg.mpr rfl)⟩⟩
theorem GN(ha:JE X pg k e ma)(hr:JA X pg k es mr)(hs:noStar e=true:=by rfl):JA X pg k (e::es) (ab ma mr):=⟨λA =>
 by obtain⟨_,q1,s1⟩:=ha.h A;exact by obtain⟨_,q2,s2⟩:=hr.h A;exact⟨_,qk q1 q2 hs,fun ρ h H e σ Q v h' s r q P=>by
  obtain⟨x,h1,e1,q⟩:=bind_eq.mp q;obtain⟨xs,h2,e2,q⟩:=bind_eq.mp q;cases q;refine s1 ρ h H e σ _ _ _ s r e1 λx' ρ1 H1 g1 z1 r1=>?_;refine s2 ρ1 h1 H1 e σ _ _ _ z1 (r.gr g1) e2 λus ρ2 H2 g2 z2 r2=>?_;exact P _ ρ2 H2 (g1.trans g2) z2 (az.mpr ⟨x',us,rfl,rel.gr g2 _ _ r1,r2⟩)⟩⟩
theorem Nd(h:JA X pg k es mr):JE X pg k (.Tuple es x1 pos) (aq mr):=⟨λA =>
 by obtain⟨_,q1,s1⟩:=h.h A;exact⟨_,Nl q1,fun ρ h H e σ Q v h' s r q P=>by
  obtain⟨xs,h1,e1,q⟩:=bind_eq.mp q;obtain⟨hl,q⟩:=kW.mp q;cases q;refine s1 ρ h H e σ _ _ _ s r e1 λus ρ1 H1 g1 z1 r1=>⟨by rw[<- r1.len];exact hl,λp hp=>?_⟩
  refine P _ ρ1 _ (g1.trans (Gr.xE hp)) (z1.tup hp) ?_;exact⟨p,us,rfl,aX,ao.gr (Gr.xE hp) _ _ r1⟩⟩⟩
theorem dj{K}(s:cY K ρ h H)(r:ao K ρ H xs us)(P:d7 K ρ H (.ref h.length) (h++[.lst xs]) Q) p (hp:H p=Wx):Q (.ref p) (upd H p (.lst us)):=by
 refine P _ (ρ ++[p]) _ (Gr.new hp [p]) (s.new hp ⟨us,aX,ao.gr (Gr.new hp [p]) _ _ r⟩) ?_;exact⟨p,by rw[<- s.len,Xe (WG _)];simp,rfl⟩
theorem O2(h:JA X pg k es mr):JE X pg k (.List es pos) (bD mr):=⟨λA =>
 by obtain⟨_,q1,s1⟩:=h.h A;exact⟨_,OS q1,fun ρ h H e σ Q v h' s r q P=>by
  obtain⟨xs,h1,e1,q⟩:=bind_eq.mp q;obtain⟨hl,q⟩:=kW.mp q;cases q;exact s1 ρ h H e σ _ _ _ s r e1 λus ρ1 H1 g1 z1 r1=>⟨by rw[<- r1.len];exact hl,λp hp=>dj z1 r1 (P.gr g1) p hp⟩⟩⟩
theorem H9{d}(hf:pg.fns f=Wv d)(hg:Gl X (WU f))(ha:JA X pg k (e::es) mr)(hdb:(WU f == ("__debug__"))=false:=by decide)(he:noStar e=true:=by rfl)(hpl:es.all noStar=true:=by rfl) :
  JE X pg k (.Call (.Name (WU f) p) (e::es) [] pos) (ag f mr):=⟨λA =>
 by obtain⟨_,q1,s1⟩:=ha.h A;exact⟨_,qd (A.defs f d hf) A.room hg (WG _) q1 hdb he hpl,fun ρ h H e σ Q v h' s r q P=>by
  obtain⟨xs,h1,e1,q⟩:=bind_eq.mp q;refine s1 ρ h H e σ _ _ _ s r e1 λus ρ1 H1 g1 z1 r1=>?_;rw[Xr];exact⟨ρ1,h1,xs,v,h',z1,r1,q,P.gr g1⟩⟩⟩
theorem QV{K}(ho:AY K r f)(ha:SA cf K ta mr):SE cf K (MX r ta) (eB f mr):=fun ρ h H e σ Q v h' s r q P=>by
 obtain⟨xs,h1,e1,q⟩:=bind_eq.mp q;exact ha ρ h H e σ _ _ _ s r e1 λus ρ1 H1 g1 z1 r1=>ho ρ1 h1 H1 xs us Q v h' z1 r1 q (P.gr g1)
theorem Dc{id}(hc:cX X pg k-> ∃ r,aS X (.builtin id) r/\AY X.K r f)(hg:Gl X x)(hb:x∈iE)(hv:Yc x=Wv (.builtin id))(ha:JA X pg k (e::es) mr)
  (hn:x≠ "__name__" :=by decide) (hdb:(x == ("__debug__"))=false:=by decide) (he:noStar e=true:=by rfl) (hpl:es.all noStar=true:=by rfl):JE X pg k (.Call (.Name x p) (e::es) [] pos) (eB f mr):=⟨λA =>
 by obtain⟨_,q1,s1⟩:=ha.h A;exact by obtain⟨_,q,s⟩:=hc A;exact⟨_,qB q hg (A.blt x hb) hv q1 hn hdb he hpl,QV s s1⟩⟩
theorem J9(hc:cX X pg k-> ∃ r,aS X (.type T) r/\AY X.K r f)(hg:Gl X x)(hb:x∈iE)(hv:Yc x=Wv (.type T))(ha:JA X pg k (e::es) mr)
  (hn:x≠ "__name__" :=by decide) (hdb:(x == ("__debug__"))=false:=by decide) (he:noStar e=true:=by rfl) (hpl:es.all noStar=true:=by rfl):JE X pg k (.Call (.Name x p) (e::es) [] pos) (eB f mr):=⟨λA =>
 by obtain⟨_,q1,s1⟩:=ha.h A;exact by obtain⟨_,q,s⟩:=hc A;exact⟨_,qT q hg (A.blt x hb) hv q1 hn hdb he hpl,QV s s1⟩⟩
theorem Pt{id}(pa:adv T)(slot:Slot T name id)(hty:typeOf (.builtin id)=pure (.type "method_descriptor"))(hm:cX X pg k-> ∃ r,KS X id r/\T6 X.K T r f ty)
  (ho:JE X pg k d md) (ha:JA X pg k [e] mr) (hbase:Zf d name X.env (Yu d X.env)=Yu d X.env:=by rfl) (hline:(apos.endLine == cpos.line)=true:=by rfl) (hs:noStar e=true:=by rfl) :
  JE X pg k (.Call (.Attribute d name apos) [e] [] cpos) (eM f ty md mr):=⟨λA =>
 by obtain⟨_,q0,s0⟩:=ho.h A;exact by obtain⟨_,q1,s1⟩:=ha.h A;exact by obtain⟨_,q,s⟩:=hm A;exact⟨_,KH pa slot hty q q0 q1 hbase hline hs,fun ρ h H e σ Q v h' z r q P=>by
  obtain⟨x,h1,e1,q⟩:=bind_eq.mp q;refine s0 ρ h H e σ _ _ _ z r e1 λx' ρ1 H1 g1 z1 r1=>?_;split at q
  . rename_i ht;obtain⟨xs,h2,e2,q⟩:=bind_eq.mp q;refine⟨s.1 ρ1 h1 H1 x x' z1 r1 ht,?_⟩;exact s1 ρ1 h1 H1 e σ _ _ _ z1 (r.gr g1) e2 λus ρ2 H2 g2 z2 r2=>s.2 ρ2 h2 H2 x x' xs us Q v h' z2 (rel.gr g2 _ _ r1) r2 q (P.gr (g1.trans g2))
  . nomatch q⟩⟩
theorem Dw{K}(ho:oy K r f)(ho':oy K r' g)(ha:SE cf K ta ma)(hb:SE cf K tb mb)(hc:SE cf K tc mc):SE cf K (y6 r r' ta tb tc) (t5 f g ma mb mc):=fun ρ h H e σ Q v h' s r q P=>by
 obtain⟨x,h1,e1,q⟩:=bind_eq.mp q;obtain⟨y,h2,e2,q⟩:=bind_eq.mp q;obtain⟨z,h3,e3,q⟩:=bind_eq.mp q;obtain⟨z0,h4,e4,e5⟩:=bind_eq.mp e3;obtain⟨rfl,rfl⟩:=ql.mp e5;refine ha ρ h H e σ _ x h1 s r e1 λx' ρ1 H1 g1 s1 r1=>?_;refine hb ρ1 h1 H1 e σ _ y h2 s1 (r.gr g1) e2 λy' ρ2 H2 g2 s2 r2=>?_;refine ho ρ2 h2 H2 x y x' y' _ _ _ s2 (rel.gr g2 _ _ r1) r2 e4 λz' ρ3 H3 g3 s3 r3=>?_;refine⟨z,r3,?_⟩;cases z with
 | true =>
  obtain⟨w,h5,e5,q⟩:=bind_eq.mp q
  refine hc ρ3 _ H3 e σ _ w h5 s3 (r.gr ((g1.trans g2).trans g3)) e5 λw' ρ4 H4 g4 s4 r4=>?_
  exact ho' ρ4 h5 H4 y w y' w' Q v h' s4 (rel.gr (g3.trans g4) _ _ r2) r4 q (P.gr (((g1.trans g2).trans g3).trans g4))
 | false=>cases q;exact P _ ρ3 H3 ((g1.trans g2).trans g3) s3 (by rw[rel])
theorem Fv(ho:cX X pg k-> ∃ r,cZ X (Xh op) r/\oy X.K r f)(ho':cX X pg k-> ∃ r,cZ X (Xh op') r/\oy X.K r g)(ha:JE X pg k a ma)(hb:JE X pg k b mb)(hc:JE X pg k c mc)
  (hm:lastMarks [op,op'] [b,c]=false:=by with_unfolding_all rfl):JE X pg k (.Compare a [op,op'] [b,c] pos) (t5 f g ma mb mc):=⟨λA =>
 let ⟨_,q1,s1⟩:=ha.h A;let ⟨_,q2,s2⟩:=hb.h A;let ⟨_,q3,s3⟩:=hc.h A;let ⟨_,q,s⟩:=ho A;let ⟨_,q',s'⟩:=ho' A;⟨_,Fg q q' q1 q2 q3 hm,Dw s s' s1 s2 s3⟩⟩
end
noncomputable def cE:MS:=λ_ e h=> .ok (.nx e) h
def ae(a b:MS):MS:=λc e h=>(a c e h).bind λf h1=>match f with
 | .nx e1=>b c e1 h1
 | f=> .ok f h1
def bS(a:ME):MS:=λc e h=>(a c e h).bind λ_ h1=> .ok (.nx e) h1
def ay(a:ME):MS:=λc e h=>(a c e h).bind λv h1=> .ok (.rt v) h1
def bW(t:MT)(a b:MS):MS:=λc e h=>(t c e h).bind λx h1=>if x=true then a c e h1 else b c e h1
noncomputable def jC:MS:=λ_ _ _=> .no
def ai(a:ME)(g:MG):MS:=λc e h=>(a c e h).bind λv h1=>(g v e h1).bind λe1 h2=> .ok (.nx e1) h2
noncomputable def gN(i:Nat):MG:=λv e h=> .ok (e.set i (Wv v)) h
noncomputable def gT(n:Nat)(g:List PV->aQ->PH->RV aQ):MG:=λv e h=>match v.seq? with
 | some xs=>if xs.length=n then g xs e h else .no
 | none=> .no
noncomputable def cw:List PV->aQ->PH->RV aQ:=λvs e h=>match vs with
 | []=> .ok e h
 | _=> .no
def aA(g:MG)(r:List PV->aQ->PH->RV aQ):List PV->aQ->PH->RV aQ:=λvs e h=>match vs with
 | []=> .no
 | v::t=>(g v e h).bind λe1 h1=>r t e1 h1
def fQ(f:PV->PV->PV->PH->RV Unit)(o i a:ME):MS:=λc e h=>(a c e h).bind λv h1=>(o c e h1).bind λx h2=>(i c e h2).bind λy h3=>(f x y v h3).bind λ_ h4=> .ok (.nx e) h4
def bK(it:uj)(step:PV->aQ->PH->RV Fl):List PV->aQ->PH->RV Fl
 | [],e,h=>if it.kC h=true then .ok (.nx e) h else .no
 | x::xs,e,h=>if it.kC h=true then(step x e h).bind (λf h1=>match f with
   | .nx e1=>bK it step xs e1 h1
   | .ct e1=>bK it step xs e1 h1
   | .bk e1=> .ok (.nx e1) h1
   | .rt v=> .ok (.rt v) h1) else .no
def ja(i:MI)(g:MG)(b:MS):MS:=λc e h=>(i c e h).bind λit h1=>bK it (λx e h=>(g x e h).bind λe1 h1=>b c e1 h1) it.items e h1
def cF(t:aQ->PH->RV Bool)(b:aQ->PH->RV Fl):Nat->aQ->PH->RV Fl
 | 0,_,_=> .no
 | n+1,e,h=>(t e h).bind λx h1=>if x=true then(b e h1).bind (λf h2=>match f with
   | .nx e1=>cF t b n e1 h2
   | .ct e1=>cF t b n e1 h2
   | .bk e1=> .ok (.nx e1) h2
   | .rt v=> .ok (.rt v) h2) else .ok (.nx e) h1
def uT(t:MT)(b:MS):MS:=λc e h=>cF (t c) (b c) 100000 e h
def gL(it:uj)(step:PV->PH->RV (Option PV)):List PV->List PV->PH->RV (List PV)
 | [],ys,h=>if it.kC h=true then .ok ys h else .no
 | x::xs,ys,h=>if it.kC h=true/\ys.length < WJ then(step x h).bind (λo h1=>match o with
   | some y=>gL it step xs (ys++[y]) h1
   | none=>gL it step xs ys h1) else .no
def aO k (g:MG) (t:MT) (a:ME) c (e:aQ) x h:=(g x (e++WO k Wx) h).bind λe2 h2=>(t c e2 h2).bind λb h3=>if b=true then(a c e2 h3).bind (λy h4=> .ok (Wv y) h4) else .ok Wx h3
def je(k:Nat)(i:MI)(g:MG)(t:MT)(a:ME):ME:=λc e h=>(i c e h).bind λit h1=>(gL it (aO k g t a c e) it.items [] h1).bind λys h2=> .ok (.ref h2.length) (h2++[.lst ys])
section
variable{X:Cx}{pg:Tb}{k:Nat}{a b c d e o i:XH}{es:List XH}{ma mb mc md mo mi:ME}{mr:MA}{mt mt':MT}{ms ms' mu:MS}{pos p pos' apos cpos spos:Pos}{x y:Str}{st:acC}{body rest:List acC}{g:MG}{mI:MI}{tg iter:XH}{gs:List PV->aQ->PH->RV aQ}
theorem SK{c K}:SS c K F7 cE:=fun ρ h H e σ D f h' s r q P=>by cases q;exact P σ ρ H (.refl _ _) s r
theorem P7{c K}(h1:SS c K t ms)(h2:SS c K u mu):SS c K (Mo t u) (ae ms mu):=fun ρ h H e σ D f h' s r q P=>by
 obtain⟨f1,h1',e1,q⟩:=bind_eq.mp q;refine h1 ρ h H e σ _ f1 h1' s r e1 ?_;cases f1 with
 | nx e'=>exact fun σ1 ρ1 H1 g1 s1 r1=>h2 ρ1 h1' H1 e' σ1 D f h' s1 r1 q (P.gr g1)
 | rt v=>cases q;exact P
 | bk e'=>cases q;exact P
 | ct e'=>cases q;exact P
theorem HB:BR X pg k [] cE:=⟨λA=>⟨_,IT,SK⟩⟩
theorem Gy(h:JS X pg k st ms):BR X pg k [st] ms:=⟨λA=>by obtain⟨_,q,s⟩:=h.h A;exact⟨_,Iq q,s⟩⟩
theorem E8(h1:JS X pg k st ms)(h2:BR X pg k rest mu):BR X pg k (st::rest) (ae ms mu):=⟨λA=>by obtain⟨_,q1,s1⟩:=h1.h A;exact by obtain⟨_,q2,s2⟩:=h2.h A;exact⟨_,DN q1 q2,P7 s1 s2⟩⟩
theorem JK(ha:JE X pg k e ma)(hs:ZH e Wx pos.line X.env=pure false:=by rfl):JS X pg k (.Expr e pos) (bS ma):=⟨λA=>by obtain⟨_,q1,s1⟩:=ha.h A;exact⟨_,Ji q1 hs,fun ρ h H e σ D f h' s r q P=>by
 obtain⟨x,h1,e1,q⟩:=bind_eq.mp q;cases q;exact s1 ρ h H e σ _ x _ s r e1 λx' ρ1 H1 g1 z1 r1=>P σ ρ1 H1 g1 z1 (r.gr g1)⟩⟩
theorem NL(ha:JE X pg k e ma):JS X pg k (.Return (Wv e) pos) (ay ma):=⟨λA=>by obtain⟨_,q1,s1⟩:=ha.h A;exact⟨_,NQ q1,fun ρ h H e σ D f h' s r q P=>by
 obtain⟨x,h1,e1,q⟩:=bind_eq.mp q;cases q;exact s1 ρ h H e σ _ x _ s r e1 P⟩⟩
theorem R7(hc:JT X pg k c mt)(ha:BR X pg k A ms)(hb:BR X pg k B mu):JS X pg k (.If c A B pos) (bW mt ms mu):=⟨λZ =>
 by obtain⟨_,q0,s0⟩:=hc.h Z;exact let ⟨_,q1,s1⟩:=ha.h Z;let ⟨_,q2,s2⟩:=hb.h Z;⟨_,Sv q0 q1 q2,fun ρ h H e σ D f h' s r q P=>by
  obtain⟨x,h1,e1,q⟩:=bind_eq.mp q;refine s0 ρ h H e σ _ _ _ s r e1 fun ρ1 H1 g1 z1=>?_;cases x with
  | true=>exact s1 ρ1 _ H1 e σ _ _ _ z1 (r.gr g1) q (P.gr g1)
  | false=>exact s2 ρ1 _ H1 e σ _ _ _ z1 (r.gr g1) q (P.gr g1)⟩⟩
theorem DY:JS X pg k st jC:=⟨λA=>⟨_,⟨C0⟩,fun ρ h H e σ D f h' s r q P=>by cases q⟩⟩
theorem AH{K i}:SG K (gG i) (gN i):=fun ρ h H e σ Q v v' e' h' s r rv q P=>by cases q;exact P _ ρ H (.refl _ _) s (r.set i rv)
theorem Jz{i}(hN:X.N.Nodup)(hi:X.N[i]?=Wv x)(hx:Loc X.env.scope x)(hf:X.fn x=true\/X.env.scope.names.lookup x=Wv .local:=by first | exact .inl rfl | exact .inr rfl | assumption):JG X pg k (.Name x pos) (gN i):=⟨λA=>⟨_,Ai hN hi hx hf,AH⟩⟩
structure Q7(X:Cx)(pg:Tb)(k:Nat)(e:List XH)(m:List PV->aQ->PH->RV aQ):Prop where
 h:cX X pg k-> ∃ t,L3 X e t/\ ∀ ρ h H e σ Q vs us e' h',cY X.K ρ h H->d6 X.K ρ H e σ ->ao X.K ρ H vs us->m vs e h= .ok e' h'->gj X.K ρ H e' h' Q->t us σ H Q
theorem GD:Q7 X pg k [] cw:=⟨λA=>⟨_,zU,fun ρ h H e σ Q vs us e' h' s r rv q P=>by
 cases vs with
 | nil=>cases q;exact⟨rv,P σ ρ H (.refl _ _) s r⟩
 | cons=>cases q⟩⟩
theorem F0(h1:JG X pg k e g)(h2:Q7 X pg k es gs)(hs:(X6 (e::es) X.env).map (·.2)=aa1 e X.env::(X6 es X.env).map (·.2):=by rfl):Q7 X pg k (e::es) (aA g gs):=⟨λA =>
 by obtain⟨_,q1,s1⟩:=h1.h A;exact by obtain⟨_,q2,s2⟩:=h2.h A;exact⟨_,wd q1 q2 hs,fun ρ h H e σ Q vs us e' h' s r rv q P=>by
 cases vs with
 | nil=>cases q
 | cons v t =>
  obtain⟨w,u,rfl,r1,r2⟩:=az.mp rv
  obtain⟨e1,h1,e2,q⟩:=bind_eq.mp q
  refine⟨w,u,rfl,?_⟩
  exact s1 ρ h H e σ _ v w e1 h1 s r r1 e2 fun σ1 ρ1 H1 g1 z1 y1=>s2 ρ1 h1 H1 e1 σ1 Q t u e' h' z1 y1 (ao.gr g1 _ _ r2) q (P.gr g1)⟩⟩
theorem M9{j}(h:Q7 X pg k es gs)(hn:(X6 es X.env).length=n:=by rfl)(hst:(X6 es X.env).findIdx? (·.1)=Wx:=by rfl):JG X pg k (.Tuple es j pos) (gT n gs):=⟨λA =>
 by obtain⟨_,q1,s1⟩:=h.h A;exact⟨_,Dd A.calm q1 hn hst,fun ρ h H e σ Q v v' e' h' s r rv q P=>by
 unfold gT at q
 split at q
 . rename_i xs ex;obtain⟨a,vs,rfl,z,rr⟩:=rel.seq ex rv;split at q
   . rename_i hl;exact⟨a,vs,rfl,z,by rw[<- rr.len];exact hl,s1 ρ h H e σ Q xs vs e' h' s r rr q P⟩
   . nomatch q
 . nomatch q⟩⟩
theorem LL(hN:X.N.Nodup)(hi:X.N[j]?=Wv x)(hx:Loc X.env.scope x)(he:JE X pg k e ma)(hs:ZH e (Wv (.Name x pos')) pos.line X.env=pure false:=by rfl)(hf:X.fn x=true\/X.env.scope.names.lookup x=Wv .local:=by first | exact .inl rfl | exact .inr rfl | assumption) :
  JS X pg k (.Assign [.Name x pos'] e pos) (ai ma (gN j)):=⟨λA=>by obtain⟨_,q1,s1⟩:=he.h A;exact⟨_,O3 hN hi hx q1 hs hf,fun ρ h H e σ D f h' s r q P=>by
 obtain⟨v,h1,e1,q⟩:=bind_eq.mp q;obtain⟨e2,h2,e3,q⟩:=bind_eq.mp q;cases q;cases e3;exact s1 ρ h H e σ _ v _ s r e1 λv' ρ1 H1 g1 z1 r1=>P _ ρ1 H1 g1 z1 ((r.gr g1).set j r1)⟩⟩
theorem NU(he:JE X pg k e ma)(hg:JG X pg k tg g)(hs:abH [tg] e pos.line X.env=pure false:=by rfl)(hw:abI [tg] e X.env=pure Wx:=by rfl)(h1:(X6 [tg] X.env).map (·.2)=[aa1 tg X.env]:=by rfl) :
  JS X pg k (.Assign [tg] e pos) (ai ma g):=⟨λA=>by obtain⟨_,q1,s1⟩:=he.h A;exact by obtain⟨_,q2,s2⟩:=hg.h A;exact⟨_,ED q1 q2 hs hw h1,fun ρ h H e σ D f h' s r q P=>by
 obtain⟨v,h1,e1,q⟩:=bind_eq.mp q;obtain⟨e2,h2,e3,q⟩:=bind_eq.mp q;cases q;exact s1 ρ h H e σ _ v h1 s r e1 λv' ρ1 H1 g1 z1 r1=>s2 ρ1 h1 H1 e σ _ v v' e2 _ z1 (r.gr g1) r1 e3 (gj.gr P g1)⟩⟩
theorem MU(hp:cX X pg k-> ∃ t,pP X t/\ ∀ ρ h H x y v x' y' v' u h' Q,cY X.K ρ h H->rel X.K ρ H x x'->rel X.K ρ H y y'->rel X.K ρ H v v'->f x y v h= .ok u h'->oh X.K ρ H h' Q->t x' y' v' H Q)
  (ho:JE X pg k o mo) (hi:JE X pg k i mi) (hv:JE X pg k e ma) (hs:abH [.Subscript o i pos'] e pos.line X.env=pure false:=by rfl) (hw:abI [.Subscript o i pos'] e X.env=pure Wx:=by rfl) (h1:(X6 [.Subscript o i pos'] X.env).map (·.2)=[aa1 (.Subscript o i pos') X.env]:=by rfl)
  (ha: ∀ v,aa1 (.Subscript o i pos') X.env v=(do
   let ov <- aau [v] (Yu o X.env)
   let iv <- aau [v,ov] (Yu i X.env)
   aer pos'
   aau [v,ov,iv] (adD ov iv v)
   release [v,ov,iv] []):=by intro _;rfl):JS X pg k (.Assign [.Subscript o i pos'] e pos) (fQ f mo mi ma):=⟨λA =>
 let ⟨_,q0,s0⟩:=hv.h A;let ⟨_,q1,s1⟩:=ho.h A;let ⟨_,q2,s2⟩:=hi.h A;by obtain⟨_,q3,s3⟩:=hp A;exact⟨_,ED q0 ⟨Pl q1.h q2.h q3 ha⟩ hs hw h1,fun ρ h H e σ D f' h' s r q P=>by
 obtain⟨v,h1,e1,q⟩:=bind_eq.mp q
 obtain⟨x,h2,e2,q⟩:=bind_eq.mp q
 obtain⟨y,h3,e3,q⟩:=bind_eq.mp q
 obtain⟨u,h4,e4,q⟩:=bind_eq.mp q
 cases q
 refine s0 ρ h H e σ _ v h1 s r e1 λv' ρ1 H1 g1 z1 r1=>?_
 refine s1 ρ1 h1 H1 e σ _ x h2 z1 (r.gr g1) e2 λx' ρ2 H2 g2 z2 r2=>?_
 refine s2 ρ2 h2 H2 e σ _ y h3 z2 (r.gr (g1.trans g2)) e3 λy' ρ3 H3 g3 z3 r3=>?_
 have g:=(g1.trans g2).trans g3
 exact s3 ρ3 h3 H3 x y v x' y' v' u _ _ z3 (rel.gr g3 _ _ r2) r3 (rel.gr (g2.trans g3) _ _ r1) e4 fun ρ4 H4 g4 z4=>P σ ρ4 H4 (g.trans g4) z4 (r.gr (g.trans g4))⟩⟩
theorem LC(hi:JI X pg k tg iter mI)(hg:JG X pg k tg g)(hb:BR X pg k body ms)(hp:abZ (W8 X.prog X.w) X.A X.env X.xe)(hs: ∀ x,XM iter X.env x=pure x:=by intro _;rfl):JS X pg k (.For tg iter body [] pos) (ja mI g ms):=⟨λA =>
 by obtain⟨_,q1,s1⟩:=hi.h A;exact by obtain⟨_,q2,s2⟩:=hg.h A;exact by obtain⟨_,q3,s3⟩:=hb.h A;exact⟨_,O7 hp A.calm q1 q2 q3 hs,fun ρ h H e σ D f h' s r q P=>by
 obtain ⟨it,h1,e1,q⟩:=bind_eq.mp q
 refine s1 ρ h H e σ _ it h1 s r e1 fun ρ1 H1 J g1 z1 w1=>?_
 let step:=λx e h=>(g x e h).bind λe1 h1=>ms (run pg k) e1 h1
 refine ⟨λi m σ' H'=> ∃ ρ' h2 e',Gr ρ1 H1 ρ' H'∧cY X.K ρ' h2 H'∧d6 X.K ρ' H' e' σ'∧i<=it.items.length∧m=it.items.length - i∧bK it step (it.items.drop i) e' h2= .ok f h',⟨_, ρ1,h1,e,.refl _ _,z1,r.gr g1,Xv _,rfl,q⟩,?_⟩
 rintro i m σ2 H2 ⟨ρ2,h2,e2,g2,z2,r2,hi,rfl,q2⟩
 cases hx:it.items[i]? with
 | none =>
  have hl:=X3.mp hx
  rw[Ye hl,bK] at q2
  split at q2
  . rename_i hf;cases q2;exact .inl ⟨(w1 i ρ2 _ H2 g2 z2 hf).2 (by omega),P σ2 ρ2 H2 (g1.trans g2) z2 r2⟩
  . cases q2
 | some x =>
  have hlt:=(WA.mp hx).1
  have hd:it.items.drop i=x::it.items.drop (i+1):=by
   rw[Yh hlt,(WA.mp hx).2]
  rw[hd,bK] at q2
  split at q2
  . rename_i hf;obtain⟨go,yl⟩:=(w1 i ρ2 _ H2 g2 z2 hf).1 x hx;obtain⟨f3,h3,e3,q3⟩:=bind_eq.mp q2;obtain ⟨e4,h4,e5,q4⟩:=bind_eq.mp e3;refine .inr ⟨go,fun σ' H'=> ∃ ρ' h2 e',Gr ρ1 H1 ρ' H'∧cY X.K ρ' h2 H'∧d6 X.K ρ' H' e' σ'∧bK it step (it.items.drop (i+1)) e' h2= .ok f h',?_,?_⟩
    . rintro σ' H' ⟨ρ',h2,e',a1,a2,a3,a4⟩;exact ⟨it.items.length - (i+1),by omega, ρ',h2,e',a1,a2,a3,hlt,rfl,a4⟩
    . intro v H3 hy;obtain ⟨ρ3,g3,z3,r3⟩:=yl v H3 hy;refine s2 ρ3 h2 H3 e2 σ2 _ x v e4 h4 z3 (r2.gr g3) r3 e5 fun σ4 ρ4 H4 g4 z4 r4=>?_;have gg:=(g2.trans g3).trans g4;refine s3 ρ4 h4 H4 e4 σ4 _ f3 h3 z4 r4 q4 ?_;cases f3 with
      | nx e6=>exact fun σ5 ρ5 H5 g5 z5 r5=>⟨ρ5,h3,e6,gg.trans g5,z5,r5,q3⟩
      | ct e6=>exact fun σ5 ρ5 H5 g5 z5 r5=>⟨ρ5,h3,e6,gg.trans g5,z5,r5,q3⟩
      | bk e6=>cases q3;exact gj.gr P (g1.trans gg)
      | rt v=>cases q3;exact d7.gr P (g1.trans gg)
  . nomatch q2⟩⟩
theorem Ey(hc:JT X pg k c mt)(hb:BR X pg k body ms)(hp:abZ (W8 X.prog X.w) X.A X.env X.xe):JS X pg k (.While c body [] pos) (uT mt ms):=⟨λA =>
 by obtain ⟨_,q1,s1⟩:=hc.h A;exact by obtain ⟨_,q2,s2⟩:=hb.h A;exact ⟨_,FQ hp q1 q2,fun ρ h H e σ D f h' s r q P=>by
 refine ⟨λm σ' H'=> ∃ ρ' h2 e',Gr ρ H ρ' H'∧cY X.K ρ' h2 H'∧d6 X.K ρ' H' e' σ'∧cF (mt (run pg k)) (ms (run pg k)) m e' h2= .ok f h',⟨100000, ρ,h,e,.refl _ _,s,r,q⟩,?_⟩
 rintro m σ1 H1 ⟨ρ1,h1,e1,g1,z1,r1,q1⟩
 cases m with
 | zero=>cases q1
 | succ m =>
  obtain⟨x,h2,e2,q1⟩:=bind_eq.mp q1
  refine s1 ρ1 h1 H1 e1 σ1 _ x h2 z1 r1 e2 fun ρ2 H2 g2 z2=>?_
  cases x with
  | false=>cases q1;exact P σ1 ρ2 H2 (g1.trans g2) z2 (r1.gr g2)
  | true =>
   obtain⟨f3,h3,e3,q3⟩:=bind_eq.mp q1
   refine⟨fun σ' H'=> ∃ ρ' h2 e',Gr ρ H ρ' H'/\cY X.K ρ' h2 H'/\d6 X.K ρ' H' e' σ'/\cF (mt (run pg k)) (ms (run pg k)) m e' h2= .ok f h',fun σ' H' w=>⟨m,ZS _,w⟩,?_⟩
   refine s2 ρ2 h2 H2 e1 σ1 _ f3 h3 z2 (r1.gr g2) e3 ?_
   have gg:=g1.trans g2
   cases f3 with
   | nx e6=>exact fun σ5 ρ5 H5 g5 z5 r5=>⟨ρ5,h3,e6,gg.trans g5,z5,r5,q3⟩
   | ct e6=>exact fun σ5 ρ5 H5 g5 z5 r5=>⟨ρ5,h3,e6,gg.trans g5,z5,r5,q3⟩
   | bk e6=>cases q3;exact gj.gr P gg
   | rt v=>cases q3;exact d7.gr P gg⟩⟩
theorem La{K tg}(s1:SI cf K wi mI)(s2:SG K tg g)(s3:ST cf K tt mt)(s4:SE cf K te ma):SE cf K (Uv n wi tg tt te) (je n mI g mt ma):=fun ρ h H e σ Q v h' s r q P=>by
 obtain⟨it,h1,e1,q⟩:=bind_eq.mp q;obtain ⟨ys,h2,e2,q⟩:=bind_eq.mp q;cases q;refine s1 ρ h H e σ _ it h1 s r e1 fun ρ1 H1 J g1 z1 w1=>?_;refine ⟨λi m us H'=> ∃ ρ' h3 zs,Gr ρ1 H1 ρ' H'∧cY K ρ' h3 H'∧ao K ρ' H' zs us∧i<=it.items.length∧m=it.items.length - i∧gL it (aO n g mt ma cf e) (it.items.drop i) zs h3= .ok ys h2,⟨_, ρ1,h1,[],.refl _ _,z1,cg.mpr rfl,Xv _,rfl,e2⟩,?_⟩;rintro i m us H2 ⟨ρ2,h3,zs,g2,z2,r2,hi,rfl,q2⟩;cases hx:it.items[i]? with
 | none =>
  have hl:=X3.mp hx
  rw[Ye hl,gL] at q2
  split at q2
  . rename_i hf;cases q2;exact .inl ⟨(w1 i ρ2 _ H2 g2 z2 hf).2 (by omega),λp hp=>dj z2 r2 (P.gr (g1.trans g2)) p hp⟩
  . cases q2
 | some x =>
  have hlt:=(WA.mp hx).1
  have hd:it.items.drop i=x::it.items.drop (i+1):=by
   rw[Yh hlt,(WA.mp hx).2]
  rw[hd,gL] at q2
  split at q2
  . rename_i hf;obtain⟨go,yl⟩:=(w1 i ρ2 _ H2 g2 z2 hf.1).1 x hx;obtain⟨o,h4,e3,q3⟩:=bind_eq.mp q2;obtain⟨e4,h5,e5,q4⟩:=bind_eq.mp e3;obtain⟨b,h6,e6,q5⟩:=bind_eq.mp q4;refine .inr ⟨go,by rw[<- r2.len];exact hf.2,λv H3 hy=>?_⟩;obtain⟨ρ3,g3,z3,r3⟩:=yl v H3 hy;refine s2 ρ3 h3 H3 _ _ _ x v e4 h5 z3 (((r.gr (g1.trans (g2.trans g3)))).more n) r3 e5 fun σ4 ρ4 H4 g4 z4 r4=>?_;refine s3 ρ4 h5 H4 e4 σ4 _ b h6 z4 r4 e6 fun ρ5 H5 g5 z5=>?_;have gg:=((g2.trans g3).trans g4).trans g5;cases b with
    | false=>cases q5;exact ⟨it.items.length - (i+1),by omega, ρ5,_,zs,gg,z5,ao.gr ((g3.trans g4).trans g5) _ _ r2,hlt,rfl,q3⟩
    | true =>
     obtain ⟨y,h7,e7,q6⟩:=bind_eq.mp q5
     cases q6
     refine s4 ρ5 h6 H5 e4 σ4 _ y _ z5 (r4.gr g5) e7 λy' ρ6 H6 g6 z6 r6=>?_
     exact ⟨it.items.length - (i+1),by omega, ρ6,_,zs++[y],gg.trans g6,z6,(ao.gr (((g3.trans g4).trans g5).trans g6) _ _ r2).app (ao.one r6),hlt,rfl,q3⟩
  . nomatch q2
end
noncomputable def Vu(c:CF)(K:Wz)(m:ME):TE:=fun σ H Q=> ∃ ρ h e v h',cY K ρ h H∧d6 K ρ H e σ ∧m c e h= .ok v h'∧d7 K ρ H v h' Q
noncomputable def VX(c:CF)(K:Wz)(m:MT):TT:=fun σ H Q=> ∃ ρ h e b h',cY K ρ h H/\d6 K ρ H e σ /\m c e h= .ok b h'/\oh K ρ H h' (Q b)
theorem Kw{K}:SE c K (Vu c K m) m:=fun ρ h H e σ Q v h' s r q P=>⟨ρ,h,e,v,h',s,r,q,P⟩
theorem Lr{K}:ST c K (VX c K m) m:=fun ρ h H e σ Q v h' s r q P=>⟨ρ,h,e,v,h',s,r,q,P⟩
theorem JE.HD(j:JE X pg k e m)(A:cX X pg k):QE X e (Vu (run pg k) X.K m) :=
 by obtain⟨_,q,s⟩:=j.h A;exact⟨λpins st σ H Q I=>by rintro ⟨ρ,h,e,v,h',a,b,c,d⟩;exact q.h pins st σ H Q I (s ρ h H e σ Q v h' a b c d)⟩
theorem JF.HD(j:JF X pg k e m)(A:cX X pg k):QF X e (VX (run pg k) X.K m) :=
 by obtain⟨_,q,s⟩:=j.h A;exact⟨λpins st σ H Q I=>by rintro ⟨ρ,h,e,v,h',a,b,c,d⟩;exact q.h pins st σ H Q I (s ρ h H e σ Q v h' a b c d)⟩
structure GC(K:Wz)(n:Nat)(t:TG)(m:MG):Prop where
 sg:SG K t m
 gk:GK n t
 mono:uO t
structure TU(K:Wz)(n:Nat)(t:Gm)(m:List PV->aQ->PH->RV aQ):Prop where
 sg: ∀ ρ h H e σ Q vs us e' h',cY K ρ h H->d6 K ρ H e σ ->ao K ρ H vs us->m vs e h= .ok e' h'->gj K ρ H e' h' Q->t us σ H Q
 gk:Tq n t
 mono: ∀ xs σ H Q Q',(∀ σ2 H2,Q σ2 H2->Q' σ2 H2)->t xs σ H Q->t xs σ H Q'
theorem GS{K}(h:n<=i):GC K n (gG i) (gN i):=⟨AH,Iw h,y0⟩
theorem Ah{K}:TU K n A7 cw:=⟨fun ρ h H e σ Q vs us e' h' s r rv q P=>by
 cases vs with
 | nil=>cases q;exact⟨rv,P σ ρ H (.refl _ _) s r⟩
 | cons=>exact(by cases q),PB,λxs σ H Q Q' f q=>⟨q.1,f _ _ q.2⟩⟩
theorem mN{K}(a:GC K n t m)(b:TU K n ts ms):TU K n (nU t ts) (aA m ms):=⟨fun ρ h H e σ Q vs us e' h' s r rv q P=>by
 cases vs with
 | nil=>cases q
 | cons v t =>
  obtain⟨w,u,rfl,r1,r2⟩:=az.mp rv
  obtain⟨e1,h1,e2,q⟩:=bind_eq.mp q
  refine⟨w,u,rfl,?_⟩
  exact a.sg ρ h H e σ _ v w e1 h1 s r r1 e2 fun σ1 ρ1 H1 g1 z1 y1=>b.sg ρ1 h1 H1 e1 σ1 Q t u e' h' z1 y1 (ao.gr g1 _ _ r2) q (P.gr g1),Ja a.gk a.mono b.gk,
 λxs σ H Q Q' f=>by rintro ⟨v,r,e,q⟩;exact⟨v,r,e,a.mono _ _ _ _ _ (fun σ2 H2 z=>b.mono _ _ _ _ _ f z) q⟩⟩
theorem Ge{K}(b:TU K n ts ms):GC K n (xS K j ts) (gT j ms):=⟨fun ρ h H e σ Q v v' e' h' s r rv q P=>by
 unfold gT at q;split at q
 . rename_i xs ex;obtain⟨a,vs,rfl,z,rr⟩:=rel.seq ex rv;split at q
   . rename_i hl;exact⟨a,vs,rfl,z,by rw[<- rr.len];exact hl,b.sg ρ h H e σ Q xs vs e' h' s r rr q P⟩
   . nomatch q
 . exact(nomatch q),Pf b.gk,λx σ H Q Q' f=>by rintro ⟨a,xs,e1,e2,e3,q⟩;exact⟨a,xs,e1,e2,e3,b.mono _ _ _ _ _ f q⟩⟩
section
variable{X:Cx}{pg:Tb}{k:Nat}{e tg iter:XH}{ma:ME}{mt:MT}{g:MG}{tG:TG}{mI:MI}{scope:aby}{ifs:List XH}{pos spos py:Pos}{y:Str}
theorem xb vars (hkind:scope.kind= .function) (hlc:jg scope.names X.env.scope.names X.N vars=true) (hi:JI X pg k tg iter mI)
  (hb: ∀ cl C s₀ H₀ ex pn,(cX X pg k->QG (fK X vars scope cl C s₀ H₀ ex pn) tg tG)/\JF (fK X vars scope cl C s₀ H₀ ex pn) pg k ifs mt/\JE (fK X vars scope cl C s₀ H₀ ex pn) pg k e ma) (hG:GC X.K X.N.length tG g)
  (hs: ∀ x,XM iter X.env x=pure x:=by intro _;rfl):JE X pg k (.ListComp e [⟨tg,iter,ifs,0⟩] scope pos) (je vars.length mI g mt ma):=⟨λA =>
 by obtain⟨_,q1,s1⟩:=hi.h A;exact⟨_,Fh vars A.calm A.wq hkind hlc q1 (λcl C s₀ H₀ ex pn=>by obtain⟨h1,h2,h3⟩:=hb cl C s₀ H₀ ex pn;exact⟨h1 A,h2.HD (A.fK ..),h3.HD (A.fK ..)⟩) hG.gk hs,La s1 hG.sg Lr Kw⟩⟩
theorem wG vars i (hkind:scope.kind= .function) (hlc:jg scope.names X.env.scope.names X.N vars=true) (hN:X.N.Nodup) (hiy:X.N[i]?=Wv y) (hy:Loc X.env.scope y) (hi:JI X pg k tg iter mI)
  (hb: ∀ cl C s₀ H₀ ex pn,(cX X pg k->QG (fK X vars scope cl C s₀ H₀ ex pn) tg tG)/\JF (fK X vars scope cl C s₀ H₀ ex pn) pg k ifs mt/\JE (fK X vars scope cl C s₀ H₀ ex pn) pg k e ma) (hG:GC X.K X.N.length tG g)
  (hsw:ZH (.ListComp e [⟨tg,iter,ifs,0⟩] scope pos) (Wv (.Name y py)) spos.line X.env=pure true:=by rfl) (hs: ∀ x,XM iter X.env x=pure x:=by intro _;rfl)
  (hf:X.fn y=true\/X.env.scope.names.lookup y=Wv .local:=by first | exact .inl rfl | exact .inr rfl | assumption) :
  JS X pg k (.Assign [.Name y py] (.ListComp e [⟨tg,iter,ifs,0⟩] scope pos) spos) (ai (je vars.length mI g mt ma) (gN i)):=⟨λA =>
 by obtain⟨_,q1,s1⟩:=hi.h A;exact⟨_,C4 vars i A.calm A.wq hkind hlc hN hiy hy q1 (λcl C s₀ H₀ ex pn=>let ⟨h1,h2,h3⟩:=hb cl C s₀ H₀ ex pn;⟨h1 A,h2.HD (A.fK ..),h3.HD (A.fK ..)⟩) hG.gk hsw hs hf,fun ρ h H e σ D f h' s r q P=>by
  obtain⟨v,h1,e1,q⟩:=bind_eq.mp q;obtain⟨e2,h2,e3,q⟩:=bind_eq.mp q;cases q;cases e3;exact La s1 hG.sg Lr Kw ρ h H e σ _ v _ s r e1 λv' ρ1 H1 g1 z1 r1=>P _ ρ1 H1 g1 z1 ((r.gr g1).set i r1)⟩⟩
end
section
variable{K:Wz}{ρ ρ':List W2}{H H':Hp}{h h':PH}
mutual
theorem rel.flat: ∀(x:PV)(v:V),x.flat=true->rel K ρ' H' x v->rel K ρ H' x v
 | .non,v,_,h=>by simpa only[rel] using h
 | .bl _,v,_,h=>by simpa only[rel] using h
 | .int _,v,_,h=>by simpa only[rel] using h
 | .str _,v,_,h=>by simpa only[rel] using h
 | .ty _,v,_,h=>by simpa only[rel] using h
 | .ref n,v,f,h=>by simp[PV.flat] at f
 | .tup xs,v,f,h=>by
  rw[rel] at h ⊢;rw[PV.flat] at f;obtain⟨a,vs,e,s,r⟩:=h;exact⟨a,vs,e,s,ao.flat xs vs f r⟩
 | .ktup xs,v,f,h=>by
  rw[rel] at h ⊢;rw[PV.flat] at f;obtain⟨a,vs,e,s,r⟩:=h;exact⟨a,vs,e,s,ao.flat xs vs f r⟩
theorem ao.flat: ∀(xs:List PV)(vs:List V),PV.bo xs=true->ao K ρ' H' xs vs->ao K ρ H' xs vs
 | [],vs,_,h=>by simpa only[ao] using h
 | x::r,vs,f,h=>by
  rw[ao] at h ⊢;rw[PV.bo,WX] at f;obtain⟨v,t,e,h1,h2⟩:=h;exact ⟨v,t,e,rel.flat x v f.1 h1,ao.flat r t f.2 h2⟩
end
mutual
theorem rel.hX(g: ∀ (n:Nat) (a:W2), ρ[n]?=Wv a-> ρ'[n]?=Wv a): ∀(x:PV)(v:V),x.hX ρ.length=true->rel K ρ' H' x v->rel K ρ H' x v
 | .non,v,_,h=>by simpa only [rel] using h
 | .bl _,v,_,h=>by simpa only [rel] using h
 | .int _,v,_,h=>by simpa only [rel] using h
 | .str _,v,_,h=>by simpa only[rel] using h
 | .ty _,v,_,h=>by simpa only[rel] using h
 | .ref n,v,f,h=>by
  rw[rel] at h ⊢;rw[PV.hX,decide_eq_true_eq] at f;obtain⟨a,e,h⟩:=h;have:=g n _ (WD f);rw[e] at this;exact⟨a,by rw[WD f,<- Xx this],h⟩
 | .tup xs,v,f,h=>by
  rw[rel] at h ⊢;rw[PV.hX] at f;obtain⟨a,vs,e,s,r⟩:=h;exact⟨a,vs,e,s,ao.hX g xs vs f r⟩
 | .ktup xs,v,f,h=>by
  rw[rel] at h ⊢;rw [PV.hX] at f;obtain ⟨a,vs,e,s,r⟩:=h;exact ⟨a,vs,e,s,ao.hX g xs vs f r⟩
theorem ao.hX(g: ∀ (n:Nat) (a:W2), ρ[n]?=Wv a-> ρ'[n]?=Wv a): ∀(xs:List PV)(vs:List V),PV.iy ρ.length xs=true->ao K ρ' H' xs vs->ao K ρ H' xs vs
 | [],vs,_,h=>by simpa only [ao] using h
 | x::r,vs,f,h=>by
  rw [ao] at h ⊢;rw[PV.iy,WX] at f;obtain⟨v,t,e,h1,h2⟩:=h;exact⟨v,t,e,rel.hX g x v f.1 h1,ao.hX g r t f.2 h2⟩
end
mutual
theorem rel.low: ∀(x:PV)(v:V),rel K ρ H x v->x.hX ρ.length=true
 | .non,v,_=>rfl
 | .bl _,v,_=>rfl
 | .int _,v,_=>rfl
 | .str _,v,_=>rfl
 | .ty _,v,_=>rfl
 | .ref n,v,h=>by
  rw[rel] at h;obtain⟨a,e,h⟩:=h;rw[PV.hX,decide_eq_true_eq];exact(WA.mp e).1
 | .tup xs,v,h=>by
  rw[rel] at h;obtain⟨a,vs,e,s,r⟩:=h;rw[PV.hX];exact ao.low xs vs r
 | .ktup xs,v,h=>by
  rw[rel] at h;obtain⟨a,vs,e,s,r⟩:=h;rw[PV.hX];exact ao.low xs vs r
theorem ao.low: ∀(xs:List PV)(vs:List V),ao K ρ H xs vs->PV.iy ρ.length xs=true
 | [],vs,_=>rfl
 | x::r,vs,h=>by
  rw[ao] at h;obtain⟨v,t,e,h1,h2⟩:=h;rw[PV.iy,rel.low x v h1,ao.low r t h2];rfl
end
theorem Paired.low: ∀{kvs kws},XZ (λ(p:Key × PV) (q:Key × V)=>p.1=q.1/\rel K ρ H p.2 q.2) kvs kws->PV.iy ρ.length (kvs.map (·.2))=true
 | _,_,.nil=>rfl
 | _,_,.cons r t=>by rw[WH,PV.iy,rel.low _ _ r.2,Paired.low t];rfl
theorem nE.low: ∀{o},nE K ρ H a o->o.hX ρ.length=true
 | .lst xs,⟨vs,_,r⟩=>ao.low _ _ r
 | .kZ xs,⟨vs,_,r⟩=>ao.low _ _ r
 | .dct kvs,⟨kws,_,r⟩=>Paired.low r
theorem Paired.hX(g: ∀ (n:Nat) (a), ρ[n]?=Wv a-> ρ'[n]?=Wv a): ∀{kvs kws},PV.iy ρ.length (kvs.map (·.2))=true ->
  XZ (λ(p:Key × PV) (q)=>p.1=q.1∧rel K ρ' H' p.2 q.2) kvs kws->XZ (λ(p) (q:Key × V)=>p.1=q.1∧rel K ρ H' p.2 q.2) kvs kws
 | _,_,_,.nil=> .nil
 | _,_,f,.cons r t=>by
  rw [WH,PV.iy,WX] at f;exact .cons ⟨r.1,rel.hX g _ _ f.1 r.2⟩ (Paired.hX g f.2 t)
theorem nE.hX(g: ∀ (n:Nat) (a), ρ[n]?=Wv a-> ρ'[n]?=Wv a): ∀{o},o.hX ρ.length=true->nE K ρ' H' a o->nE K ρ H' a o
 | .lst xs,f,⟨vs,e,r⟩=>⟨vs,e,ao.hX g _ _ f r⟩
 | .kZ xs,f,⟨vs,e,r⟩=>⟨vs,e,ao.hX g _ _ f r⟩
 | .dct kvs,f,⟨kws,e,r⟩=>⟨kws,e,Paired.hX g f r⟩
theorem cY.drop(s:cY K ρ h H)(g:Gr ρ H ρ' H')(s':cY K ρ' h' H')(ok:bY h.length h h'=true):cY K ρ (h'.take h.length) H':=by
 have old: ∀{i:Nat}{o:PO},(h'.take h.length)[i]?=Wv o->i < h.length/\h'[i]?=Wv o:=λ{i o} e=>by
  have hi:i < h.length:=by
   have:=(WA.mp e).1;rw[Xz] at this;omega
  rw[adz,if_pos hi] at e;exact⟨hi,e⟩
 refine⟨by rw[Xz,s.len,aaj (p7 ok)],λi j a oi oj ei ej mi mj ri rj=>?_,λi o a e ea=>?_⟩
 . exact s'.nd i j a oi oj (old ei).2 (old ej).2 mi mj (g.pre _ _ ri) (g.pre _ _ rj)
 . have r:=s'.ob i o a (old e).2 (g.pre _ _ ea);obtain⟨o0,e0,_,z⟩:=sY ok e;refine nE.hX g.pre ?_ r;rcases z with z | z
   . subst z;exact(s.ob i o0 a e0 ea).low
   . rw[s.len];exact z
theorem gU(s:cY K ρ h H)(e:settle h v h'= .ok w h2)(P:d7 K ρ H w h2 Q):d7 K ρ H v h' Q:=by
 unfold settle at e;split at e
 . rename_i ok;rw[WX] at ok;cases e;exact λv' ρ' H' g s' r=>P v' ρ H' ⟨λ_ _ z=>z,g.tup,g.kU⟩ (s.drop g s' ok.2) (rel.flat _ _ ok.1 r)
 . cases e;exact P
end
theorem iP{K}: ∀{args vs},ao K ρ H args vs-> ∀ n,d6 K ρ H (args.map Wv++WO n Wx) (vs.map Wv++WO n Wx)
 | args,vs,r,n=>by
  have:d6 K ρ H (args.map Wv) (vs.map Wv):=⟨by simp[r.len],λi v e=>by
   rw[WT] at e;cases q:args[i]? with
   | none=>rw[q] at e;cases e
   | some w =>
    rw[q] at e
    cases e
    obtain⟨v',e1,e2⟩:=r.get q
    exact⟨v',by rw[WT,e1];rfl,e2⟩⟩
  exact this.more n
structure oW(P:Xy)(w:X0)(K:Wz)(mg:Str->Option WC)(base:X8)(pg:Tb)(f:String)(d:Df):Prop where
 ex: ∃(st:acC)(N:List Str),At K mg (WU f) st/\fU N d.ps (aD st)/\N.length=d.ps.length+d.nl /\
  (∀(kV doc pm:WC)(an:Option W2)(cdv ct:WC)(us:List WC),us.length=d.ps.length->Z8 (Ym (WU f) (WU f) (df st) (bO st) (aD st) .none kV doc pm an cdv ct) ⟨us,[]⟩=pure (d.ps.zip us)) /\
  ∀(fa:W2)(cdv:WC)(A:Yk)(outer:List Env)(s:WK)(H:Hp)(E:XK)(k:Nat),BR (lQ wZ P w K mg base N (WU f) (aD st) fa cdv A outer s H E).wq pg k (bO st) d.body
structure Top(P:Xy)(w:X0)(K:Wz)(mg:Str->Option WC)(pg:Tb):Prop where
 blt: ∀ x∈iE,mg x=Wx
 con: ∀ x v,pg.con x=Wv v-> ∃ u v',mg x=Wv u/\RelV v' u/\Cw K v'/\ ∀ ρ H,rel K ρ H v v'
 xG: ∀ x kvs,pg.xG x=Wv kvs-> ∃ a kws,mg x=Wv (.ref a)∧KD P w K a kws∧ ∀ ρ H,XZ (λ(p:Key × PV) (q:Key × V)=>p.1=q.1∧rel K ρ H p.2 q.2) kvs kws
section
variable {P:Xy} {w:X0} {K:Wz} {mg:Str->Option WC} {base:X8} {pg:Tb}
theorem FP(T : Top P w K mg pg)(G : ∀ f d, pg.fns f = Wv d -> oW P w K mg base pg f d) : ∀ k f d, pg.fns f = Wv d -> nZ P w K mg base (WU f) k d.ps (yz K pg k f) := by
  intro k
  induction k with
  | zero =>
    intro f d hf
    obtain ⟨st, N, a, S, hl, hb, body⟩ := (G f d hf).ex
    exact At.BP a hb λvs H Q E => by rintro ⟨ρ, h, args, v, h', _, _, q, _⟩ ; exact by cases q
  | succ k ih =>
    intro f d hf
    obtain ⟨st, N, a, S, hl, hb, body⟩ := (G f d hf).ex
    have run_eq : ∀{args : List PV}{h h' : PH}{v : PV}, run pg (k + 1) f args h = .ok v h' -> args.length = d.ps.length ∧
        ((∃ w h2, d.body (run pg k) (args.map Wv ++ WO d.nl Wx) h = .ok (.rt w) h2 /\ settle h w h2 = .ok v h') ∨
         (∃ e h2, d.body (run pg k) (args.map Wv ++ WO d.nl Wx) h = .ok (.nx e) h2 /\ settle h .non h2 = .ok v h')) := λ{args h h' v} q => by
      rw [run, hf] at q;simp only at q;split at q
      . rename_i hn;refine ⟨hn, ?_⟩;split at q
        . rename_i w h2 e; exact .inl ⟨w, h2, e, q⟩
        . rename_i e' h2 e; exact .inr ⟨e', h2, e, q⟩
        . nomatch q
        . cases q
        . nomatch q
      . nomatch q
    refine At.Vg a S hb (λvs H Q E => by rintro ⟨ρ, h, args, v, h', _, r, q, _⟩ ; exact by rw [<- r.len]; exact (run_eq q).1) ?_
    rintro fa cdv A outer s H vs Q E hr ⟨ρ, h, args, v, h', sm, r, q, post⟩
    have amb : cX (lQ wZ P w K mg base N (WU f) (aD st) fa cdv A outer s H E).wq pg k := ⟨hr, rfl, λ_ _ z => z, ih, T.blt, T.con, T.xG⟩
    obtain ⟨t, qt, st'⟩ := (body fa cdv A outer s H E k).h amb
    refine ⟨t, qt, ?_⟩
    obtain ⟨hn, q⟩ := run_eq q
    have he : L2.start N vs = vs.map Wv ++ WO d.nl Wx := by
      unfold L2.start;rw [hl, <- r.len, hn, aca]
    rw [he]
    rcases q with ⟨w, h2, e, q⟩ | ⟨e', h2, e, q⟩
    . exact st' ρ h H _ _ _ _ h2 sm (iP r _) e (gU sm q post)
    . exact st' ρ h H _ _ _ _ h2 sm (iP r _) e fun σ' ρ' H' g s' _ => gU sm q post .non ρ' H' g s' (by rw [rel])
end
def p2(f:Int->Int->RV PV):PV->PV->PH->RV PV:=λx y h=>match x,y with
 | .int i,.int j=>(f i j).bind λv _=> .ok v h
 | _,_=> .no
noncomputable def Gp(v:PV):RV PV:= .ok v []
section
variable{K:Wz}{X:Cx}{pg:Tb}{k:Nat}
theorem Lx(hf: ∀ i j v h,f i j= .ok v h->C i j/\ ∀ ρ H,rel K ρ H v (g i j)):oy K (rI C g) (p2 f):=fun ρ h H x y x' y' Q v h' s rx ry q P=>by
 unfold p2 at q;split at q
 . rename_i i j;obtain⟨w,h0,e,q⟩:=bind_eq.mp q;cases q;obtain⟨hc,hr⟩:=hf i j v h0 e;exact⟨i,j,rx,ry,hc,P _ ρ H (.refl _ _) s (hr ρ H)⟩
 . cases q
theorem xo(hf: ∀ i j v h,f i j= .ok v h-> ∀ ρ H,rel K ρ H v (g i j)):oy K (Gg g) (p2 f):=fun ρ h H x y x' y' Q v h' s rx ry q P=>by
 unfold p2 at q;split at q
 . rename_i i j;obtain⟨w,h0,e,q⟩:=bind_eq.mp q;cases q;exact⟨i,j,rx,ry,P _ ρ H (.refl _ _) s (hf i j v h0 e ρ H)⟩
 . cases q
def rD:=p2 λi j=>Gp (.int (i - j))
def m8:=p2 λi j=>if 0 < j then Gp (.int (i % j)) else .no
def pL:=p2 λi j=>if 0 < j/\j < 1073741824 then Gp (.int (i / j)) else .no
def Hi:=p2 λi j=>if 0<=j/\j<=1000000/\i.natAbs < 2 ^ 64 then Gp (.int (i ^ j.toNat)) else .no
def BM:=p2 λi j=>Gp (.bl (decide (i < j)))
def Uh:=p2 λi j=>Gp (.bl (decide (i<=j)))
def Qk:=p2 λi j=>Gp (.bl (decide (j < i)))
def UH:=p2 λi j=>Gp (.bl (decide (j<=i)))
theorem QZ:cX X pg k-> ∃ r,cZ X (Yg .Sub) r/\oy X.K r rD:=λ_=>⟨_,Nc,xo λi j v h e ρ H=>by cases e;rw[rel]⟩
theorem Qx:cX X pg k-> ∃ r,cZ X (Yg .Mod) r/\oy X.K r m8:=λ_=>⟨_,O5,Lx λi j v h e=>by
 split at e
 . cases e;exact⟨by assumption,fun ρ H=>by rw[rel]⟩
 . cases e⟩
theorem LN:cX X pg k-> ∃ r,cZ X (Yg .FloorDiv) r/\oy X.K r pL:=λ_=>⟨_,Ko,Lx λi j v h e=>by
 split at e
 . cases e;exact⟨by assumption,fun ρ H=>by rw[rel]⟩
 . cases e⟩
theorem Qu:cX X pg k-> ∃ r,cZ X (Yg .Pow) r/\oy X.K r Hi:=λ_=>⟨_,Oz,Lx λi j v h e=>by
 split at e
 . cases e;exact⟨by assumption,fun ρ H=>by rw[rel]⟩
 . cases e⟩
theorem US:cX X pg k-> ∃ r,cZ X (Xh .Lt) r/\oy X.K r BM:=λ_=>⟨_,RM,xo λi j v h e ρ H=>by cases e;rw[rel]⟩
theorem Vk:cX X pg k-> ∃ r,cZ X (Xh .LtE) r/\oy X.K r Uh:=λ_=>⟨_,QN,xo λi j v h e ρ H=>by cases e;rw[rel]⟩
theorem U6:cX X pg k-> ∃ r,cZ X (Xh .Gt) r/\oy X.K r Qk:=λ_=>⟨_,TB,xo λi j v h e ρ H=>by cases e;rw[rel]⟩
theorem UX:cX X pg k-> ∃ r,cZ X (Xh .GtE) r/\oy X.K r UH:=λ_=>⟨_,RL,xo λi j v h e ρ H=>by cases e;rw[rel]⟩
def UP(xs:List PV)(h:PH):RV PV:=mW xs.length (.ok (.ref h.length) (h++[.lst xs]))
def aU:PV->PV->PH->RV PV:=λx y h=>match x,y with
 | .int i,.int j=> .ok (.int (i+j)) h
 | .str a,.str b=>mW (a.length+b.length) (.ok (.str (a++b)) h)
 | .tup xs,.tup ys=>mW (xs.length+ys.length) (.ok (.tup (xs++ys)) h)
 | .ref n,.ref m=>(match h[n]?,h[m]? with
  | some (.lst xs),Wv (.lst ys)=>UP (xs++ys) h
  | _,_=> .no)
 | _,_=> .no
theorem cY.lst{ρ h H}(s:cY K ρ h H){n xs}(e:h[n]?=Wv (.lst xs)){v}(r:rel K ρ H (.ref n) v): ∃ a vs,v= .ref a/\ ρ[n]?=Wv a/\H a=Wv (.lst vs)/\ao K ρ H xs vs:=by
 obtain⟨a,ea,rfl⟩:=r;obtain⟨vs,e1,e2⟩:=s.ob n _ a e ea;exact⟨a,vs,rfl,ea,e1,e2⟩
theorem cY.kZ(s:cY K ρ h H)(e:h[n]?=Wv (.kZ xs))(r:rel K ρ H (.ref n) v): ∃ a vs,v= .ref a/\ ρ[n]?=Wv a/\hW K H a vs/\ao K ρ H xs vs:=by
 obtain⟨a,ea,rfl⟩:=r;obtain⟨vs,e1,e2⟩:=s.ob n _ a e ea;exact⟨a,vs,rfl,ea,e1.sq,e2⟩
noncomputable def cH(h:PH)(n:Nat):Option (List PV):=match h[n]? with
 | some (.lst xs)=>Wv xs
 | some (.kZ xs)=>Wv xs
 | _=>Wx
theorem cY.sq(s:cY K ρ h H)(e:cH h n=Wv xs)(r:rel K ρ H (.ref n) v): ∃ a vs,v= .ref a/\ ρ[n]?=Wv a/\hW K H a vs/\ao K ρ H xs vs:=by
 unfold cH at e;split at e
 . cases e;obtain⟨a,vs,e1,e2,e3,e4⟩:=s.lst (by assumption) r;exact⟨a,vs,e1,e2,.of e3,e4⟩
 . cases e;exact s.kZ (by assumption) r
 . cases e
theorem oZ(s:cY K ρ h H)(r:ao K ρ H xs us)(P:d7 K ρ H (.tup xs) h Q) p (hp:H p=Wx):Q (.ref p) (upd H p (.tup us)):=by
 refine P _ ρ _ (Gr.xE hp) (s.tup hp) ?_;exact⟨p,us,rfl,aX,ao.gr (Gr.xE hp) _ _ r⟩
theorem Rr:cX X pg k-> ∃ r,cZ X (Yg .Add) r/\oy X.K r aU:=λ_=>⟨_,O0,fun ρ h H x y x' y' Q v h' s rx ry q P=>by
 unfold aU at q;split at q
 . cases q;exact .inl ⟨_,_,rx,ry,P _ ρ H (.refl _ _) s (by rw[rel])⟩
 . obtain⟨hl,q⟩:=kW.mp q;cases q;exact .inr (.inr (.inr (.inr ⟨_,_,rx,ry,hl,P _ ρ H (.refl _ _) s (by rw[rel])⟩)))
 . rename_i xs ys;obtain⟨hl,q⟩:=kW.mp q;cases q;have ry':=ry;obtain⟨a,us,e1,e2,e3⟩:=rx;obtain⟨b,ws,d1,d2,d3⟩:=ry;cases xs with
   | nil =>
    subst e3
    exact .inr (.inr (.inr (.inl ⟨a,b,ws,e1,d1,.of e2,.of d2,d1 ▸ P y' ρ H (.refl _ _) s ry'⟩)))
   | cons x r =>
    refine .inr (.inr (.inl ⟨a,b,us,ws,e1,d1,.of e2,.of d2,?_,by rw[<- e3.len,<- d3.len];exact hl,?_⟩))
    . rintro rfl;have:=e3.len;simp at this
    . refine⟨λz=>?_,λ_ p hp=>oZ s (e3.app d3) P p hp⟩;subst z;have:=aaZ d3.len;subst this;rw[Xr] at P;exact P _ ρ H (.refl _ _) s (by exact⟨a,us,rfl,e2,e3⟩)
 . split at q
   . rename_i h1 h2;obtain⟨hl,q⟩:=kW.mp q;cases q;obtain⟨a,us,rfl,_,e1,e2⟩:=s.lst h1 rx;obtain⟨b,ws,rfl,_,d1,d2⟩:=s.lst h2 ry;refine .inr (.inl ⟨a,b,us,ws,rfl,rfl,e1,d1,?_,λp hp=>dj s (e2.app d2) P p hp⟩);rw[<- e2.len,<- d2.len];simpa using hl
   . nomatch q
 . nomatch q⟩
noncomputable def cx(kvs:List (Key × PV)) k:=(kvs.find? λkv=>decide (kv.1=k)).map (·.2)
noncomputable def iA kvs (k:Key) (v:PV) :=
 if (kvs.any λkv=>decide (kv.1=k))=true then kvs.map (λkv=>if kv.1=k then(kv.1,v) else kv) else kvs++[(k,v)]
noncomputable def iI:PV->Option Key
 | .int i=>Wv (.inl i)
 | .str x=>Wv (.inr x)
 | _=>Wx
theorem fZ{k}(e:iI x=Wv k)(r:rel K ρ H x v):v=kV k:=by
 cases x<;>simp only[iI,reduceCtorEq,Zc] at e<;>(subst e;exact r)
abbrev RK(K:Wz)(ρ :List W2)(H:Hp)(kvs:List (Key × PV))(kws:List (Key × V)):Prop:=XZ (λ(p:Key × PV) (q:Key × V)=>p.1=q.1/\rel K ρ H p.2 q.2) kvs kws
theorem RK.val: ∀{kvs kws} k,RK K ρ H kvs kws->match cx kvs k,iq kws k with
  | some x,Wv v=>rel K ρ H x v
  | none,Wx=>True
  | _,_=>False
 | _,_,k,.nil=>trivial
 | _,_,k,.cons (a:=p) (b:=q) r t=>by
  have ih:=RK.val k t;unfold cx iq at ih ⊢;rw[aen,aen,<- r.1];by_cases e:p.1=k
  . simp only[e,decide_true];exact r.2
  . simp only[e,decide_false];exact ih
theorem RK.some{k}(r:RK K ρ H kvs kws)(e:cx kvs k=Wv x): ∃ v,iq kws k=Wv v/\rel K ρ H x v:=by
 have:=RK.val k r;rw[e] at this;cases q:iq kws k with
 | none=>rw[q] at this;exact YU this
 | some v=>rw[q] at this;exact⟨v,rfl,this⟩
theorem RK.is k (r:RK K ρ H kvs kws):(iq kws k).isSome=(cx kvs k).isSome:=by
 have:=RK.val k r;cases p:cx kvs k<;>cases q:iq kws k<;>rw[p,q] at this<;>first | rfl | exact YU this
theorem RK.len(r:RK K ρ H kvs kws):kvs.length=kws.length:=Ze r
theorem RK.any: ∀{kvs kws} k,RK K ρ H kvs kws->(kws.any λkv=>decide (kv.1=k))=kvs.any λkv=>decide (kv.1=k)
 | _,_,k,.nil=>rfl
 | _,_,k,.cons (a:=p) (b:=q) r t=>by rw[Yv,Yv,RK.any k t,r.1]
theorem RK.DM{k}(h:rel K ρ H x v): ∀{kvs kws},RK K ρ H kvs kws->RK K ρ H (kvs.map λkv=>if kv.1=k then(kv.1,x) else kv) (kws.map λkv=>if kv.1=k then(kv.1,v) else kv)
 | _,_,.nil=> .nil
 | _,_,.cons (a:=p) (b:=q) a t=> .cons (by
   show(if p.1=k then(p.1,x) else p).1=(if q.1=k then(q.1,v) else q).1/\rel K ρ H (if p.1=k then(p.1,x) else p).2 (if q.1=k then(q.1,v) else q).2;rw[<- a.1];split
   . exact⟨rfl,h⟩
   . exact a) (RK.DM h t)
theorem RK.snoc{k}(h:rel K ρ H x v): ∀{kvs kws},RK K ρ H kvs kws->RK K ρ H (kvs++[(k,x)]) (kws++[(k,v)])
 | _,_,.nil=> .cons ⟨rfl,h⟩ .nil
 | _,_,.cons a t=> .cons a (RK.snoc h t)
theorem RK.put{k}(r:RK K ρ H kvs kws)(h:rel K ρ H x v):RK K ρ H (iA kvs k x) (putK kws k v):=by
 unfold iA putK;rw[RK.any k r];split
 . exact RK.DM h r
 . exact RK.snoc h r
def aB:PV->PV->PH->RV PV:=λx y h=>match x with
 | .tup xs=>(match y with
  | .int i=>(match dZ xs i with | some v=> .ok v h | none=> .no)
  | _=> .no)
 | .ktup xs=>(match y with
  | .int i=>(match dZ xs i with | some v=> .ok v h | none=> .no)
  | _=> .no)
 | .str z=>(match y with
  | .int i=>mW z.length (match dZ z.cps.toList i with | some c=> .ok (.str ⟨#[c]⟩) h | none=> .no)
  | _=> .no)
 | .ref n=>(match h[n]? with
  | some (.dct kvs)=>(match iI y with
   | some k=>(match cx kvs k with | some v=> .ok v h | none=> .no)
   | none=> .no)
  | some (.lst xs)=>(match y with
   | .int i=>(match dZ xs i with | some v=> .ok v h | none=> .no)
   | _=> .no)
  | some (.kZ xs)=>(match y with
   | .int i=>(match dZ xs i with | some v=> .ok v h | none=> .no)
   | _=> .no)
  | none=> .no)
 | _=> .no
theorem ao.at(r:ao K ρ H xs vs)(e:dZ xs i=Wv x): ∃ v,dZ vs i=Wv v/\rel K ρ H x v:=by
 unfold dZ at e ⊢;rw[<- r.len];cases q:pX xs.length i with
 | none=>rw[q] at e;cases e
 | some j =>
  rw [q] at e
  exact r.get e
noncomputable def Wl:R2:=λx y H Q=> ∃ a v,x= .ref a∧ka H a y (Wv v)∧Q v H
theorem B9(hu : X.A.units + 1 < ZV) : AW X Wl := by
  intro value slice pins s σ H x y v u Q I rx ry h hs;obtain ⟨a, w, rfl, g, q⟩ := h;obtain rfl : v = W6 a := rx;have hT := xa I g;refine Ww ?_;refine Ww (aai hT abx.lookup ?_);have fin : W3 (W8 X.prog X.w) X.A (abA slice false (.ref a) u) (λr s₃ => W3 (W8 X.prog X.w) X.A (letTemporaryGo value (.ref a) r >>= λ_ => pure r) (EP X pins σ Q) X.xe s₃) X.xe s := by
    rw [hs];exact wpAny_operating (CJ hu I g ry λw' s' I' r' => Ww (acN (WI ⟨w, H, I', r', q⟩)))
  first
    | exact WI (Ww fin)
    | exact Ww (WI (Ww fin))
    | exact Ww fin
theorem cX.hu(A:cX X pg k):X.A.units+1 < ZV:=SO A.room
theorem UZ:cX X pg k-> ∃ r,AW X r/\oy X.K r aB:=λA=>⟨_,PN.or (B9 A.hu),fun ρ h H x y x' y' Q v h' s rx ry q P=>by
 cases x with
 | tup xs =>
  cases y with
  | int i =>
   simp only[aB] at q
   split at q
   . rename_i w e;cases q;obtain⟨a,vs,rfl,z,r⟩:=rel.seq (x:= .tup xs) rfl rx;obtain⟨u,e1,e2⟩:=r.at e;exact .inl (.inr (.inl ⟨a,vs,i,u,rfl,ry,z,e1,P _ ρ H (.refl _ _) s e2⟩))
   . nomatch q
  | _=>cases q
 | ktup xs =>
  cases y with
  | int i =>
   simp only[aB] at q
   split at q
   . rename_i w e;cases q;obtain⟨a,vs,rfl,z,r⟩:=rel.seq (x:= .ktup xs) rfl rx;obtain⟨u,e1,e2⟩:=r.at e;exact .inl (.inr (.inl ⟨a,vs,i,u,rfl,ry,z,e1,P _ ρ H (.refl _ _) s e2⟩))
   . nomatch q
  | _=>cases q
 | str z =>
  cases y with
  | int i =>
   obtain⟨hl,q⟩:=kW.mp q
   split at q
   . rename_i c e;cases q;exact .inl (.inr (.inr ⟨z,i,c,rx,ry,hl,e,P _ ρ H (.refl _ _) s (by rw[rel])⟩))
   . nomatch q
  | _=>cases q
 | ref n =>
  simp only[aB] at q
  split at q
  . rename_i kvs e;split at q
    . rename_i key ek;split at q
      . rename_i w ew;cases q;obtain⟨a,ea,rfl⟩:=rx;obtain⟨kws,e1,e2⟩:=s.ob n _ a e ea;obtain⟨u,e3,e4⟩:=RK.some e2 ew;have:=fZ ek ry;subst this;exact .inr ⟨a,u,rfl,e3 ▸ ka.k (k:=key) e1,P _ ρ H (.refl _ _) s e4⟩
      . nomatch q
    . nomatch q
  . rename_i xs e;cases y with
    | int i =>
     simp only at q
     split at q
     . rename_i w ew;cases q;obtain⟨a,vs,rfl,_,z,r⟩:=s.lst e rx;obtain⟨u,e1,e2⟩:=r.at ew;exact .inl (.inl ⟨a,vs,i,u,rfl,ry,.of z,e1,P _ ρ H (.refl _ _) s e2⟩)
     . nomatch q
    | _=>nomatch q
  . rename_i xs e;cases y with
    | int i =>
     simp only at q
     split at q
     . rename_i w ew;cases q;obtain⟨a,vs,rfl,_,z,r⟩:=s.kZ e rx;obtain⟨u,e1,e2⟩:=r.at ew;exact .inl (.inl ⟨a,vs,i,u,rfl,ry,z,e1,P _ ρ H (.refl _ _) s e2⟩)
     . nomatch q
    | _=>nomatch q
  . nomatch q
 | _=>cases q⟩
theorem QX(hr:cX X pg k-> ∃ r,AW X r/\oy X.K r f)(ha:JE X pg k a ma)(hb:JE X pg k b mb)(hs:uv b):JE X pg k (.Subscript a b pos) (aj f ma mb):=⟨λA =>
 let ⟨_,q1,s1⟩:=ha.h A;let ⟨_,q2,s2⟩:=hb.h A;by obtain⟨_,q,s⟩:=hr A;exact⟨_,Ro q q1 q2 hs,AE s s1 s2⟩⟩
def dM:PV->PV->PV->PH->RV Unit:=λx y v h=>match x with
 | .ref n=>(match h[n]? with
  | some (.dct kvs)=>(match iI y with
   | some k=>if kvs.length < WJ then .ok () (h.set n (.dct (iA kvs k v))) else .no
   | none=> .no)
  | some (.lst xs)=>(match y with
   | .int i=>(match pX xs.length i with | some j=> .ok () (h.set n (.lst (xs.set j v))) | none=> .no)
   | _=> .no)
  | _=> .no)
 | _=> .no
noncomputable def S4:Jc:=λo i v H Q=> ∃ a H',o= .ref a/\yP H a i v H'/\Q H'
theorem set_dict(hu:X.A.units+1 < ZV):pP X S4:=by
 intro pins s σ H o i v ov iv u Q I ro ri rv h;obtain⟨a,H',rfl,g,q⟩:=h;obtain rfl:ov=W6 a:=ro;exact Cc hu I g ri rv λs' I'=>⟨H',I',q⟩
theorem pP.or(h:pP X t)(h':pP X t'):pP X (λo i v H Q=>t o i v H Q\/t' o i v H Q):=by
 intro pins s σ H o i v ov iv u Q I ro ri rv q;rcases q with q | q
 . exact h pins s σ H o i v ov iv u Q I ro ri rv q
 . exact h' pins s σ H o i v ov iv u Q I ro ri rv q
theorem Ll:cX X pg k-> ∃ t,pP X t/\ ∀ ρ h H x y v x' y' v' u h' Q,cY X.K ρ h H->rel X.K ρ H x x'->rel X.K ρ H y y'->rel X.K ρ H v v'->dM x y v h= .ok u h'->oh X.K ρ H h' Q->t x' y' v' H Q:=λA =>
 ⟨_,pP.or set_list (set_dict A.hu),fun ρ h H x y v x' y' v' u h' Q s rx ry rv q P=>by
 cases x with
 | ref n =>
  simp only[dM] at q
  obtain⟨a,ea,rfl⟩:=rx
  split at q
  . rename_i kvs e;split at q
    . rename_i key ek;split at q
      . rename_i hl;cases q;obtain⟨kws,e1,e2⟩:=s.ob n _ a e ea;have:=fZ ek ry;subst this;refine .inr ⟨a,_,rfl,yP.k e1 (by rw[<- RK.len e2];exact hl),?_⟩;have g:Gr ρ H ρ (upd H a (.dK (putK kws key v'))):=Gr.write (.inr ⟨_,e1⟩);exact P ρ _ g (s.write e ea rfl rfl ⟨_,aX,Paired.jX g (RK.put e2 rv)⟩)
      . nomatch q
    . nomatch q
  . rename_i xs e;cases y with
    | int i =>
     simp only at q
     split at q
     . rename_i j ej;cases q;obtain⟨vs,e1,e2⟩:=s.ob n _ a e ea;have g:Gr ρ H ρ (upd H a (.lst (vs.set j v'))):=Gr.write (.inl ⟨_,e1⟩);exact .inl ⟨a,vs,i,j,rfl,ry,e1,by rw[<- e2.len];exact ej,P ρ _ g (s.write e ea rfl rfl ⟨_,aX,ao.gr g _ _ (e2.set j rv)⟩)⟩
     . nomatch q
    | _=>cases q
  . nomatch q
 | _=>cases q⟩
end
mutual
def cA(K:Wz)(H:Hp):ZP->V->Prop
 | .none,v=>v= .non
 | .bool b,v=>v= .bl b
 | .int i,v=>v= .int i
 | .str x,v=>v= .str x
 | .list xs,v=> ∃ a vs,v= .ref a/\hW K H a vs/\gC K H xs vs
 | .tuple xs,v=> ∃ a vs,v= .ref a/\fw K H a vs/\gC K H xs vs
 | .dict _,_=>False
def gC(K:Wz)(H:Hp):List ZP->List V->Prop
 | [],vs=>vs=[]
 | x::r,vs=> ∃ v t,vs=v::t/\cA K H x v/\gC K H r t
end
mutual
theorem cA.reads{X:Cx}{pins:List (W2 × Obj)}{σ :L2.St}{H:Hp}{s:WK}(I:Inv X pins σ H s): ∀(d:ZP)(v:V)(u:WC),cA X.K H d v->RelV v u-> ∃ as,Reads s.heap u d as
 | .none,v,u,h,r=>by rw[cA] at h;subst h;cases(show u=YI from r);exact⟨_,.none⟩
 | .bool b,v,u,h,r=>by rw[cA] at h;subst h;cases(show u=aaL b from r);exact⟨_,.bool b⟩
 | .int i,v,u,h,r=>by rw[cA] at h;subst h;obtain⟨t,rfl⟩:=(show ∃ t,u=ZR i t from r);exact⟨_,.int i t⟩
 | .str x,v,u,h,r=>by rw[cA] at h;subst h;obtain⟨t,rfl⟩:=(show ∃ t,u=aaK x t from r);exact⟨_,.str x t⟩
 | .list xs,v,u,h,r=>by
  rw[cA] at h;obtain⟨a,vs,rfl,z,q⟩:=h;cases(show u=W6 a from r);obtain⟨ak,rv,⟨o,n,e,c,_,dd⟩,_⟩:=I.list z;obtain⟨as,ra⟩:=gC.reads I xs vs ak q rv;exact⟨_,.list e c dd (by simpa using ra)⟩
 | .tuple xs,v,u,h,r=>by
  rw[cA] at h;obtain⟨a,vs,rfl,z,q⟩:=h;cases(show u=W6 a from r);obtain⟨ak,rv,⟨o,e,c,n,dd⟩,_⟩:=I.tuple z;obtain⟨as,ra⟩:=gC.reads I xs vs ak q rv;exact⟨_,.tuple e c dd (by simpa using ra)⟩
 | .dict _,v,u,h,r=>by rw[cA] at h;exact h.elim
theorem gC.reads{X:Cx}{pins:List (W2 × Obj)}{σ :L2.St}{H:Hp}{s:WK}(I:Inv X pins σ H s): ∀(xs:List ZP)(vs:List V)(us:List WC),gC X.K H xs vs->Vals vs us-> ∃ as,ReadsAll s.heap us xs as
 | [],vs,us,h,r=>by rw[gC] at h;subst h;cases r;exact⟨_,.nil⟩
 | x::t,vs,us,h,r=>by
  rw[gC] at h;obtain⟨v,w,rfl,h1,h2⟩:=h;cases r with
  | cons r1 r2 =>
   obtain⟨as,a⟩:=cA.reads I x v _ h1 r1
   obtain⟨bs,b⟩:=gC.reads I t w _ h2 r2
   exact⟨_,.cons a b⟩
end
mutual
def ji(sub:Nat->Option ZP):PV->Option ZP
 | .non=>Wv .none
 | .bl b=>Wv (.bool b)
 | .int i=>Wv (.int i)
 | .str x=>Wv (.str x)
 | .tup xs=>(bX sub xs).map .tuple
 | .ktup xs=>(bX sub xs).map .tuple
 | .ref n=>sub n
 | .ty _=>Wx
def bX(sub:Nat->Option ZP):List PV->Option (List ZP)
 | []=>Wv []
 | x::r=>match ji sub x,bX sub r with
  | some d1,Wv ds1=>Wv (d1::ds1)
  | _,_=>Wx
end
noncomputable def dat:Nat->PH->PV->Option ZP
 | 0,_=>ji λ_=>Wx
 | n+1,h=>ji λm=>match h[m]? with
  | some (.lst xs)=>(bX (λj=>dat n h (.ref j)) xs).map .list
  | some (.kZ xs)=>(bX (λj=>dat n h (.ref j)) xs).map .list
  | _=>Wx
mutual
theorem ji.v{K:Wz}{ρ :List W2}{H:Hp}{sub:Nat->Option ZP}(hs: ∀ n d v,sub n=Wv d->rel K ρ H (.ref n) v->cA K H d v): ∀(x:PV)(d:ZP)(v:V),ji sub x=Wv d->rel K ρ H x v->cA K H d v
 | .non,d,v,e,r=>by cases e;rw[rel] at r;rw[cA];exact r
 | .bl b,d,v,e,r=>by cases e;rw[rel] at r;rw[cA];exact r
 | .int b,d,v,e,r=>by cases e;rw[rel] at r;rw[cA];exact r
 | .str b,d,v,e,r=>by cases e;rw[rel] at r;rw[cA];exact r
 | .ty b,d,v,e,r=>by nomatch e
 | .ref n,d,v,e,r=>hs n d v e r
 | .tup xs,d,v,e,r=>by
  rw[ji] at e;cases q:bX sub xs with
  | none=>rw[q] at e;nomatch e
  | some ds =>
   rw[q] at e;cases e
   obtain⟨a,vs,e1,e2,e3⟩:=rel.seq (x:= .tup xs) rfl r
   rw[cA];exact⟨a,vs,e1,e2,bX.v hs xs ds vs q e3⟩
 | .ktup xs,d,v,e,r=>by
  rw[ji] at e;cases q:bX sub xs with
  | none=>rw[q] at e;nomatch e
  | some ds =>
   rw[q] at e;cases e
   obtain⟨a,vs,e1,e2,e3⟩:=rel.seq (x:= .ktup xs) rfl r
   rw[cA];exact⟨a,vs,e1,e2,bX.v hs xs ds vs q e3⟩
theorem bX.v{K:Wz}{ρ :List W2}{H:Hp}{sub:Nat->Option ZP}(hs: ∀ n d v,sub n=Wv d->rel K ρ H (.ref n) v->cA K H d v): ∀(xs:List PV)(ds:List ZP)(vs:List V),bX sub xs=Wv ds->ao K ρ H xs vs->gC K H ds vs
 | [],ds,vs,e,r=>by cases e;rw[ao] at r;rw[gC];exact r
 | x::t,ds,vs,e,r=>by
  rw[bX] at e;split at e
  . rename_i d ds' e1 e2;cases e;obtain⟨v,w,rfl,r1,r2⟩:=az.mp r;rw[gC];exact⟨v,w,rfl,ji.v hs x d v e1 r1,bX.v hs t ds' w e2 r2⟩
  . nomatch e
end
theorem dat.v{K}(s:cY K ρ h H): ∀ n x d v,dat n h x=Wv d->rel K ρ H x v->cA K H d v
 | 0,x,d,v,e,r=>ji.v (λ_ _ _ z _=>by cases z) x d v e r
 | n+1,x,d,v,e,r=>by
  refine ji.v (λm d' v' z rv=>?_) x d v e r;split at z
  . rename_i xs em;cases q:bX (λj=>dat n h (.ref j)) xs with
    | none=>rw[q] at z;nomatch z
    | some ds =>
     rw[q] at z;cases z
     obtain⟨a,vs,e1,_,e2,e3⟩:=s.lst em rv
     exact⟨a,vs,e1,.of e2,bX.v (λj d v z rv=>dat.v s n (.ref j) d v z rv) xs ds vs q e3⟩
  . rename_i xs em;cases q:bX (λj=>dat n h (.ref j)) xs with
    | none=>rw[q] at z;nomatch z
    | some ds =>
     rw[q] at z;cases z
     obtain⟨a,vs,e1,_,e2,e3⟩:=s.kZ em rv
     exact⟨a,vs,e1,e2,bX.v (λj d v z rv=>dat.v s n (.ref j) d v z rv) xs ds vs q e3⟩
  . cases z
section
variable{K:Wz}{X:Cx}{pg:Tb}{k:Nat}
noncomputable def TJ(K:Wz)(f:Bool->Bool):R2:=λx y H Q=> ∃ d d',cA K H d x/\cA K H d' y/\d.canLay0=true/\d'.canLay0=true/\min d.depth d'.depth<=64/\Q (.bl (f (abo d d'))) H
theorem MW(hr:X.A.units+64 < ZV):cZ X (Xh .Eq) (TJ X.K id):=by
 rintro pins s σ H x y v u Q I rx ry ⟨d,d',h1,h2,c1,c2,hd,q⟩;obtain⟨as,ra⟩:=cA.reads I d x v h1 rx;obtain⟨bs,rb⟩:=cA.reads I d' y u h2 ry;exact SeqAt.compareEq_reads ra rb c1 c2 (by omega) ⟨.bl _,H,I,rfl,q⟩
theorem NO(hr:X.A.units+64 < ZV):cZ X (Xh .NotEq) (TJ X.K not):=by
 rintro pins s σ H x y v u Q I rx ry ⟨d,d',h1,h2,c1,c2,hd,q⟩;obtain⟨as,ra⟩:=cA.reads I d x v h1 rx;obtain⟨bs,rb⟩:=cA.reads I d' y u h2 ry;exact SeqAt.compareNe_reads ra rb c1 c2 (by omega) ⟨.bl _,H,I,rfl,q⟩
noncomputable def lD:PV->PV->Bool
 | .non,.non=>true | .non,.int _=>true | .int _,.non=>true | .non,.bl _=>true | .bl _,.non=>true | .non,.str _=>true | .str _,.non=>true
 | .int _,.int _=>true | .bl _,.bl _=>true | .str _,.str _=>true
 | .int _,.str _=>true | .str _,.int _=>true | .bl _,.str _=>true | .str _,.bl _=>true
 | _,_=>false
noncomputable def gS(h:PH):PV->Bool
 | .ref n=>(match h[n]? with
  | some (.dct _)=>true
  | _=>false)
 | _=>false
noncomputable def isStr:PV->Bool
 | .str _=>true
 | _=>false
def alike x y h :=
 if lD x y=true then Wv (decide (x=y)) else match dat 6 h x,dat 6 h y with
  | some a,Wv b=>if a.canLay0=true/\b.canLay0=true/\min a.depth b.depth<=64 then Wv (abo a b) else Wx
  | _,_=>if gS h x=true/\isStr y=true then Wv false else Wx
def kb(x y:PV)(h:PH):RV PV:=match alike x y h with
 | some b=> .ok (.bl b) h
 | none=> .no
def ke(x y:PV)(h:PH):RV PV:=match alike x y h with
 | some b=>if gS h x=true then .no else .ok (.bl (!b)) h
 | none=> .no
theorem Fe{ρ : List W2}{H : Hp}{x y : PV}{x' y' : V}(h : lD x y = true)(rx : rel K ρ H x x')(ry : rel K ρ H y y') : GI x' y' = true /\ decide (x' = y') = decide (x = y) := by
  cases x <;> cases y <;> first
    | exact absurd (show false = true from h) W5
    | (rw [rel] at rx; rw [rel] at ry; subst rx; subst ry; exact ⟨rfl, by simp⟩)
theorem q8(s:cY K ρ h H)(rx:rel K ρ H x x')(ry:rel K ρ H y y')(e:alike x y h=Wv b) :
  (GI x' y'=true∧b=decide (x'=y'))∨(∃ d d',cA K H d x'∧cA K H d' y'∧d.canLay0=true∧d'.canLay0=true∧min d.depth d'.depth<=64∧b=abo d d') ∨
  (gS h x=true∧b=false∧ ∃ p z,x'= .ref p∧y'= .str z∧ ∃ kvs,H p=Wv (.dK kvs)):=by
 unfold alike at e;split at e
 . rename_i hs;cases e;obtain⟨z,w⟩:=Fe hs rx ry;exact .inl ⟨z,w.symm⟩
 . split at e
   . rename_i a c e1 e2;split at e
     . rename_i hc;cases e;exact .inr (.inl ⟨a,c,dat.v s 6 x a x' e1 rx,dat.v s 6 y c y' e2 ry,hc.1,hc.2.1,hc.2.2,rfl⟩)
     . nomatch e
   . split at e
     . rename_i hc;cases e;refine .inr (.inr ⟨hc.1,rfl,?_⟩);obtain⟨c1,c2⟩:=hc;cases x with
       | ref n =>
        cases y with
        | str z =>
         obtain⟨a,ea,rfl⟩:=rx
         simp only[gS] at c1
         split at c1
         . rename_i kvs en;obtain⟨kws,e1,_⟩:=s.ob n _ a en ea;exact⟨a,z,rfl,ry,kws,e1⟩
         . cases c1
        | _=>cases c2
       | _=>cases c1
     . nomatch e
theorem UM:cX X pg k-> ∃ r,cZ X (Xh .Eq) r/\oy X.K r kb:=λA=>⟨_,Q5.or ((MW A.room.units).or (Ic A.room.LS)),fun ρ h H x y x' y' Q v h' s rx ry q P=>by
 unfold kb at q;split at q
 . rename_i b e;cases q;have fin:=P _ ρ H (.refl _ _) s (by rw[rel]);rcases q8 s rx ry e with⟨z,rfl⟩ | ⟨d,d',h1,h2,h3,h4,h5,rfl⟩ | ⟨_,rfl,p,z,e1,e2,kvs,e3⟩
   . exact .inl ⟨z,fin⟩
   . exact .inr (.inl ⟨d,d',h1,h2,h3,h4,h5,fin⟩)
   . exact .inr (.inr ⟨p,z,e1,e2,.inr (.inr ⟨kvs,e3⟩),fin⟩)
 . cases q⟩
theorem UN:cX X pg k-> ∃ r,cZ X (Xh .NotEq) r/\oy X.K r ke:=λA=>⟨_,RT.or (NO A.room.units),fun ρ h H x y x' y' Q v h' s rx ry q P=>by
 unfold ke at q;split at q
 . rename_i b e;split at q
   . nomatch q
   . rename_i hd;cases q;have fin:=P _ ρ H (.refl _ _) s (by rw[rel]);rcases q8 s rx ry e with⟨z,rfl⟩ | ⟨d,d',h1,h2,h3,h4,h5,rfl⟩ | ⟨z,_⟩
     . exact .inl ⟨z,fin⟩
     . exact .inr ⟨d,d',h1,h2,h3,h4,h5,fin⟩
     . exact absurd z hd
 . nomatch q⟩
noncomputable def Tr(K:Wz)(f:Bool->Bool):R2:=λx y H Q=> ∃ p vs xs d,y= .ref p/\(hW K H p vs\/fw K H p vs)/\gC K H xs vs/\cA K H d x/\YE xs=true/\d.canLay0=true/\min (ZF xs) d.depth<=60/\Q (.bl (f (xs.any λz=>abo z d))) H
theorem Pu(hr:X.A.units+64 < ZV):cZ X (Xh .In) (Tr X.K id):=by
 rintro pins s σ H x y v u Q I rx ry ⟨p,vs,xs,d,e,hq,h1,h2,c1,c2,hd,q⟩;subst e;obtain⟨bs,rb⟩:=cA.reads I d x v h2 rx;rcases hq with hq | hq
 . obtain⟨as,ra⟩:=cA.reads I (.list xs) (.ref p) u (by exact⟨p,vs,rfl,hq,h1⟩) ry;exact SeqAt.in_list_reads ra rb c1 c2 (by omega) ⟨.bl _,H,I,rfl,q⟩
 . obtain⟨as,ra⟩:=cA.reads I (.tuple xs) (.ref p) u (by exact⟨p,vs,rfl,hq,h1⟩) ry;exact SeqAt.in_tuple_reads ra rb c1 c2 (by omega) ⟨.bl _,H,I,rfl,q⟩
theorem Bd(hr:X.A.units+64 < ZV):cZ X (Xh .NotIn) (Tr X.K not):=by
 rintro pins s σ H x y v u Q I rx ry ⟨p,vs,xs,d,e,hq,h1,h2,c1,c2,hd,q⟩;subst e;obtain⟨bs,rb⟩:=cA.reads I d x v h2 rx;rcases hq with hq | hq
 . obtain⟨as,ra⟩:=cA.reads I (.list xs) (.ref p) u (by exact⟨p,vs,rfl,hq,h1⟩) ry;exact SeqAt.notIn_list_reads ra rb c1 c2 (by omega) ⟨.bl _,H,I,rfl,q⟩
 . obtain⟨as,ra⟩:=cA.reads I (.tuple xs) (.ref p) u (by exact⟨p,vs,rfl,hq,h1⟩) ry;exact SeqAt.notIn_tuple_reads ra rb c1 c2 (by omega) ⟨.bl _,H,I,rfl,q⟩
noncomputable def Sk(f:Bool->Bool):R2:=λx y H Q=> ∃ a o,y= .ref a/\ka H a x o/\Q (.bl (f o.isSome)) H
theorem PL(hu:X.A.units+1 < ZV):cZ X (Xh .In) (Sk id):=by
 rintro pins s σ H x y v u Q I rx ry ⟨a,o,e,g,q⟩;subst e;obtain rfl:u=W6 a:=ry;exact Vq hu I g rx λs' I'=>⟨.bl _,H,I',rfl,q⟩
theorem Bv(hu:X.A.units+1 < ZV):cZ X (Xh .NotIn) (Sk not):=by
 rintro pins s σ H x y v u Q I rx ry ⟨a,o,e,g,q⟩;subst e;obtain rfl:u=W6 a:=ry;exact Hf hu I g rx λs' I'=>⟨.bl _,H,I',rfl,q⟩
def itemsOf(h:PH):PV->Option (List PV)
 | .tup xs=>Wv xs
 | .ktup xs=>Wv xs
 | .ref n=>cH h n
 | _=>Wx
theorem cY.items(s:cY K ρ h H)(e:itemsOf h x=Wv xs)(r:rel K ρ H x v): ∃ a vs,v= .ref a/\(hW K H a vs\/fw K H a vs)/\ao K ρ H xs vs:=by
 cases x with
 | tup ys=>cases e;obtain⟨a,vs,e1,e2,e3⟩:=rel.seq (x:= .tup xs) rfl r;exact⟨a,vs,e1,.inr e2,e3⟩
 | ktup ys=>cases e;obtain⟨a,vs,e1,e2,e3⟩:=rel.seq (x:= .ktup xs) rfl r;exact⟨a,vs,e1,.inr e2,e3⟩
 | ref n=>obtain⟨a,vs,e1,_,e2,e3⟩:=s.sq e r;exact⟨a,vs,e1,.inl e2,e3⟩
 | _=>cases e
noncomputable def gF:PV->Bool
 | .non=>true
 | .bl _=>true
 | .int _=>true
 | .str _=>true
 | _=>false
noncomputable def Qd:PV->PV->Bool
 | .non,.non=>true
 | .bl a,.bl b=>a == b
 | .bl a,.int b=>(if a then 1 else 0) == b
 | .int a,.bl b=>a == (if b then 1 else 0)
 | .int a,.int b=>a == b
 | .str a,.str b=>a == b
 | _,_=>false
theorem w6(h:gF x=true)(r:rel K ρ H x v):jb v=true:=by
 cases x<;>first | (revert h;simp [gF];done) | (subst r;rfl)
theorem He(hx : gF x = true)(hy : gF y = true)(rx : rel K ρ H x v)(ry : rel K ρ H y w) : G5 v w = Qd x y := by
  cases x <;> first
    | (exfalso; revert hx; simp [gF]; done)
    | (cases y <;> first
        | (exfalso; revert hy; simp[gF]; done)
        | (subst rx; subst ry; rfl))
theorem Ky(hx:gF x=true)(rx:rel K ρ H x v): ∀{xs vs},xs.all gF=true->ao K ρ H xs vs->vs.all jb=true/\cL v vs=xs.any λz=>Qd z x
 | [],vs,_,r=>by subst r;exact⟨rfl,rfl⟩
 | y::t,vs,h,r=>by
  obtain⟨w,u,rfl,r1,r2⟩:=az.mp r;simp only[WX,aab] at h;obtain⟨a,b⟩:=Ky hx rx h.2 r2;refine⟨by rw[aab,w6 h.1 r1,a];rfl,?_⟩;unfold cL at b ⊢;rw[Yv,Yv,b,He h.1 hx r1 rx]
def isIn(x y:PV)(h:PH):Option Bool:=match itemsOf h y with
 | some xs=>if (gF x&&xs.all gF)=true then Wv (xs.any λz=>Qd z x) else(match dat 6 h x,bX (λj=>dat 6 h (.ref j)) xs with
  | some d,Wv ds=>if YE ds=true/\d.canLay0=true/\min (ZF ds) d.depth<=60 then Wv (ds.any λz=>abo z d) else Wx
  | _,_=>Wx)
 | none=>(match y with
  | .ref n=>(match h[n]? with
   | some (.dct kvs)=>(iI x).map λk=>(cx kvs k).isSome
   | _=>Wx)
  | .str j=>(match x with
   | .str i=>Wv (!(Zj j i 0 j.length 1).isEmpty)
   | _=>Wx)
  | _=>Wx)
def jw(x y:PV)(h:PH):RV PV:=match isIn x y h with
 | some b=> .ok (.bl b) h
 | none=> .no
def kA(x y:PV)(h:PH):RV PV:=match isIn x y h with
 | some b=> .ok (.bl (!b)) h
 | none=> .no
theorem tO(s:cY K ρ h H)(rx:rel K ρ H x x')(ry:rel K ρ H y y')(e:isIn x y h=Wv b) :
  (∃ p xs,y'= .ref p/\(hW K H p xs\/fw K H p xs)/\jb x'=true/\xs.all jb=true/\b=cL x' xs) \/
  (∃ p vs xs d,y'= .ref p/\(hW K H p vs\/fw K H p vs)/\gC K H xs vs/\cA K H d x'/\YE xs=true/\d.canLay0=true/\min (ZF xs) d.depth<=60/\b=xs.any λz=>abo z d) \/
  (∃ a o,y'= .ref a/\ka H a x' o/\b=o.isSome) \/
  (∃ i j,x'= .str i/\y'= .str j/\b= !(Zj j i 0 j.length 1).isEmpty):=by
 unfold isIn at e;split at e
 . rename_i xs ei;obtain⟨a,vs,rfl,z,r⟩:=s.items ei ry;split at e
   . rename_i hf;cases e;rw[WX] at hf;obtain⟨f1,f2⟩:=Ky hf.1 rx hf.2 r;exact .inl ⟨a,vs,rfl,z,w6 hf.1 rx,f1,f2.symm⟩
   . split at e
     . rename_i d ds e1 e2;split at e
       . rename_i hc;cases e;exact .inr (.inl ⟨a,vs,ds,d,rfl,z,bX.v (λj d v w rv=>dat.v s 6 (.ref j) d v w rv) xs ds vs e2 r,dat.v s 6 x d x' e1 rx,hc.1,hc.2.1,hc.2.2,rfl⟩)
       . nomatch e
     . nomatch e
 . split at e
   . rename_i n ei;split at e
     . rename_i kvs en;cases q:iI x with
       | none=>rw[q] at e;cases e
       | some key =>
        rw[q] at e
        cases e
        obtain⟨a,ea,rfl⟩:=ry
        obtain⟨kws,e1,e2⟩:=s.ob n _ a en ea
        have:=fZ q rx
        subst this
        exact .inr (.inr (.inl ⟨a,_,rfl,ka.k (k:=key) e1,(RK.is key e2).symm⟩))
     . nomatch e
   . split at e
     . cases e;exact .inr (.inr (.inr ⟨_,_,rx,ry,rfl⟩))
     . nomatch e
   . nomatch e
theorem U9:cX X pg k-> ∃ r,cZ X (Xh .In) r/\oy X.K r jw:=λA=>⟨_,CD.or ((Pu A.room.units).or ((PL A.hu).or Bx)),fun ρ h H x y x' y' Q v h' s rx ry q P=>by
 unfold jw at q;split at q
 . rename_i b e;cases q;have fin:=P _ ρ H (.refl _ _) s (by rw[rel]);rcases tO s rx ry e with⟨p,xs,e1,e2,e3,e4,rfl⟩ | ⟨p,vs,xs,d,e1,e2,e3,e4,e5,e6,e7,rfl⟩ | ⟨a,o,e1,e2,rfl⟩ | ⟨i,j,e1,e2,rfl⟩
   . exact .inl ⟨p,xs,e1,e2,e3,e4,fin⟩
   . exact .inr (.inl ⟨p,vs,xs,d,e1,e2,e3,e4,e5,e6,e7,fin⟩)
   . exact .inr (.inr (.inl ⟨a,o,e1,e2,fin⟩))
   . exact .inr (.inr (.inr ⟨i,j,e1,e2,fin⟩))
 . cases q⟩
theorem Ir:cX X pg k-> ∃ r,cZ X (Xh .NotIn) r/\oy X.K r kA:=λA=>⟨_,ui.or ((Bd A.room.units).or ((Bv A.hu).or uF)),fun ρ h H x y x' y' Q v h' s rx ry q P=>by
 unfold kA at q;split at q
 . rename_i b e;cases q;have fin:=P _ ρ H (.refl _ _) s (by rw[rel]);rcases tO s rx ry e with⟨p,xs,e1,e2,e3,e4,rfl⟩ | ⟨p,vs,xs,d,e1,e2,e3,e4,e5,e6,e7,rfl⟩ | ⟨a,o,e1,e2,rfl⟩ | ⟨i,j,e1,e2,rfl⟩
   . exact .inl ⟨p,xs,e1,e2,e3,e4,fin⟩
   . exact .inr (.inl ⟨p,vs,xs,d,e1,e2,e3,e4,e5,e6,e7,fin⟩)
   . exact .inr (.inr (.inl ⟨a,o,e1,e2,fin⟩))
   . exact .inr (.inr (.inr ⟨i,j,e1,e2,fin⟩))
 . cases q⟩
noncomputable def gA(neg:Bool)(x:PV)(h:PH):RV PV:= .ok (.bl (if neg then !decide (x= .non) else decide (x= .non))) h
theorem G7(r:rel K ρ H x v):decide (v= .non)=decide (x= .non):=by
 cases x with
 | non=>subst r;rfl
 | bl=>subst r;rfl
 | int=>subst r;rfl
 | str=>subst r;rfl
 | ty=>subst r;rfl
 | tup=>obtain⟨a,_,rfl,_⟩:=r;rfl
 | ktup=>obtain⟨a,_,rfl,_⟩:=r;rfl
 | ref=>obtain⟨a,_,rfl⟩:=r;rfl
variable{a:XH}{ma:ME}{pos pos':Pos}
theorem zF(neg:Bool)(s1:SE c K ta ma):SE c K (fun σ H Q=>ta σ H λx H1=>Q (.bl (if neg then !decide (x= .non) else decide (x= .non))) H1) (xR (gA neg) ma):=fun ρ h H e σ Q v h' s r q P=>by
 obtain⟨x,h1,e1,q⟩:=bind_eq.mp q;cases q;refine s1 ρ h H e σ _ x _ s r e1 λx' ρ1 H1 g1 z1 r1=>?_;rw[G7 r1];exact P _ ρ1 H1 g1 z1 (by rw[rel])
theorem ND(ha:JE X pg k a ma):JE X pg k (.Compare a [.Is] [.Constant .none j pos'] pos) (xR (gA false) ma):=⟨λA=>by obtain⟨_,q1,s1⟩:=ha.h A;exact⟨_,Ms q1,zF false s1⟩⟩
theorem LY(ha:JE X pg k a ma):JT X pg k (.Compare a [.Is] [.Constant .none j pos'] pos) (aF (xR (gA false) ma)):=⟨λA=>by obtain⟨_,q1,s1⟩:=ha.h A;exact⟨_,P6 q1,uc (zF false s1)⟩⟩
theorem Jr(ha:JE X pg k a ma):JT X pg k (.Compare a [.IsNot] [.Constant .none j pos'] pos) (aF (xR (gA true) ma)):=⟨λA=>by obtain⟨_,q1,s1⟩:=ha.h A;exact⟨_,Jh q1,uc (zF true s1)⟩⟩
end
section
variable{K:Wz}{X:Cx}{pg:Tb}{k:Nat}
abbrev MO:=CF->aQ->PH->RV (Option Int)
noncomputable def dS:MO:=λ_ _ h=> .ok Wx h
def cB(a:ME):MO:=λc e h=>(a c e h).bind λv h1=>match v with
 | .int i=> .ok (Wv i) h1
 | _=> .no
def gM(xs:List PV)(lo hi:Option Int):=(xs.drop (HT.dq xs.length 0 lo)).take (HT.dq xs.length xs.length hi - HT.dq xs.length 0 lo)
def Am(x:PV)(lo hi:Option Int)(h:PH):RV PV:=match x with
 | .tup xs=> .ok (.tup (gM xs lo hi)) h
 | .ref n=>(match cH h n with
  | some xs=> .ok (.ref h.length) (h++[.lst (gM xs lo hi)])
  | none=> .no)
 | _=> .no
def q9(a:ME)(l u:MO):ME:=λc e h=>(a c e h).bind λx h1=>(l c e h1).bind λlo h2=>(u c e h2).bind λhi h3=>Am x lo hi h3
structure JO(X:Cx)(pg:Tb)(k:Nat)(e:Option XH)(m:MO):Prop where
 h:cX X pg k-> ∃ t,QO X e t/\ ∀ ρ h H e σ Q o h',cY X.K ρ h H->d6 X.K ρ H e σ ->m (run pg k) e h= .ok o h'->oh X.K ρ H h' (Q o)->t σ H Q
theorem JJ:JO X pg k Wx dS:=⟨λA=>⟨_,G1,fun ρ h H e σ Q o h' s r q P=>by cases q;exact P ρ H (.refl _ _) s⟩⟩
theorem IJ(ha:JE X pg k e ma):JO X pg k (Wv e) (cB ma):=⟨λA=>by obtain⟨_,q1,s1⟩:=ha.h A;exact⟨_,Jv q1,fun ρ h H e σ Q o h' s r q P=>by
 obtain⟨v,h1,e1,q⟩:=bind_eq.mp q;refine s1 ρ h H e σ _ v h1 s r e1 λv' ρ1 H1 g1 z1 r1=>?_;cases v with
 | int i=>cases q;exact⟨i,r1,P ρ1 H1 g1 z1⟩
 | _=>cases q⟩⟩
theorem ao.cut(r:ao K ρ H xs vs) lo hi:ao K ρ H (gM xs lo hi) (oJ vs lo hi):=by
 unfold gM oJ;rw[<- r.len];exact(r.drop _).take _
theorem EN{lo p2}(ha:JE X pg k e ma)(hl:JO X pg k lo ml)(hh:JO X pg k hi mu):JE X pg k (.Subscript e (.Slice lo hi Wx p2) pos) (q9 ma ml mu):=⟨λA =>
 by obtain⟨_,q1,s1⟩:=ha.h A;exact by obtain⟨_,q2,s2⟩:=hl.h A;exact by obtain⟨_,q3,s3⟩:=hh.h A;exact⟨_,EG Ws q1 q2 q3,fun ρ h H e σ Q v h' s r q P=>by
 obtain⟨x,h1,e1,q⟩:=bind_eq.mp q
 obtain⟨lo,h2,e2,q⟩:=bind_eq.mp q
 obtain⟨hi,h3,e3,q⟩:=bind_eq.mp q
 refine s1 ρ h H e σ _ x h1 s r e1 λx' ρ1 H1 g1 z1 r1=>?_
 refine s2 ρ1 h1 H1 e σ _ lo h2 z1 (r.gr g1) e2 fun ρ2 H2 g2 z2=>?_
 refine s3 ρ2 h2 H2 e σ _ hi h3 z2 (r.gr (g1.trans g2)) e3 fun ρ3 H3 g3 z3=>?_
 have r3:=rel.gr (K:=X.K) (g2.trans g3) _ _ r1
 have P3:=P.gr ((g1.trans g2).trans g3)
 cases x with
 | tup xs =>
  cases q
  obtain⟨a,vs,rfl,d1,d2⟩:=r3
  by_cases hw:HT.dq vs.length 0 lo=0/\HT.dq vs.length vs.length hi=vs.length
  . refine .inr (.inr ⟨a,vs,rfl,.of d1,hw,P3 _ ρ3 H3 (.refl _ _) z3 ?_⟩);have:gM xs lo hi=xs:=by
     unfold gM;rw[d2.len,hw.1,hw.2,acT,adR,<- d2.len,acb]
    rw[this];exact⟨a,vs,rfl,d1,d2⟩
  . exact .inr (.inl ⟨a,vs,rfl,.of d1,hw,λp hp=>oZ z3 (d2.cut lo hi) P3 p hp⟩)
 | ref n =>
  simp only[Am] at q
  split at q
  . rename_i xs en;cases q;obtain⟨a,vs,rfl,_,d1,d2⟩:=z3.sq en r3;exact .inl ⟨a,vs,rfl,d1,λp hp=>dj z3 (d2.cut lo hi) P3 p hp⟩
  . cases q
 | _=>cases q⟩⟩
def bV:List PV->PH->RV PV:=λxs h=>match xs with
 | [x]=>(match itemsOf h x with
  | some ys=> .ok (.int ys.length) h
  | none=>(match x with
   | .str z=>mW z.length (.ok (.int z.length) h)
   | .ref n=>(match h[n]? with
    | some (.dct kvs)=> .ok (.int kvs.length) h
    | _=> .no)
   | _=> .no))
 | _=> .no
theorem aP(r:ao K ρ H [x] us): ∃ u,us=[u]/\rel K ρ H x u:=by
 obtain⟨v,t,rfl,r1,r2⟩:=az.mp r;exact⟨v,by rw[r2],r1⟩
theorem lx(r:ao K ρ H [x,y] us): ∃ u w,us=[u,w]/\rel K ρ H x u/\rel K ρ H y w:=by
 obtain⟨v,t,rfl,r1,r2⟩:=az.mp r;obtain⟨w,rfl,r3⟩:=aP r2;exact⟨v,w,rfl,r1,r3⟩
theorem SU:cX X pg k-> ∃ r,aS X (.builtin "len") r/\AY X.K r bV:=λA=>⟨_,Js.or A5,fun ρ h H xs us Q v h' s r q P=>by
 unfold bV at q;split at q
 . obtain⟨u,rfl,r1⟩:=aP r;have r:=r1;split at q
   . rename_i ys e;cases q;obtain⟨a,vs,rfl,z,r2⟩:=s.items e r;exact .inl (.inl ⟨a,vs,rfl,z,by rw[<- r2.len];exact P _ ρ H (.refl _ _) s (by rw[rel])⟩)
   . split at q
     . obtain⟨hl,q⟩:=kW.mp q;cases q;subst r;exact .inl (.inr ⟨_,rfl,hl,P _ ρ H (.refl _ _) s (by rw[rel])⟩)
     . split at q
       . rename_i e;cases q;obtain⟨a,ea,rfl⟩:=r;obtain⟨kws,e1,e2⟩:=s.ob _ _ a e ea;exact .inr ⟨a,kws,rfl,e1,by rw[<- RK.len e2];exact P _ ρ H (.refl _ _) s (by rw[rel])⟩
       . nomatch q
     . nomatch q
 . nomatch q⟩
inductive Ty where
 | non | bool | int | str | tuple | list | dict
 deriving DecidableEq
noncomputable def Ty.n:Ty->String
 | .non=> "NoneType" | .bool=> "bool" | .int=> "int" | .str=> "str" | .tuple=> "tuple" | .list=> "list" | .dict=> "dict"
noncomputable def Ty.of:String->Option Ty
 | "bool" =>Wv .bool | "int" =>Wv .int | "str" =>Wv .str | "tuple" =>Wv .tuple | "list" =>Wv .list | "dict" =>Wv .dict
 | _=>Wx
noncomputable def Ty.Rg(a b:Ty):=decide (a=b)||(decide (a= .bool)&&decide (b= .int))
def tyP(h:PH):PV->Option Ty
 | .non=>Wv .non
 | .bl _=>Wv .bool
 | .int _=>Wv .int
 | .str _=>Wv .str
 | .tup _=>Wv .tuple
 | .ref n=>(match h[n]? with
  | some (.lst _)=>Wv .list
  | some (.dct _)=>Wv .dict
  | _=>Wx)
 | _=>Wx
theorem FX(s:cY K ρ h H)(e:tyP h x=Wv t)(r:rel K ρ H x v):j8 K H v (.type t.n):=by
 cases x with
 | non=>cases e;subst r;exact .non
 | bl b=>cases e;subst r;exact .bl b
 | int i=>cases e;subst r;exact .int i
 | str z=>cases e;subst r;exact .str z
 | tup xs=>cases e;obtain⟨a,vs,rfl,e1,_⟩:=r;exact .tup e1
 | ref n =>
  obtain⟨a,ea,rfl⟩:=r
  simp only[tyP] at e
  split at e
  . rename_i en;cases e;obtain⟨vs,e1,_⟩:=s.ob n _ a en ea;exact .lst e1
  . rename_i en;cases e;obtain⟨vs,e1,_⟩:=s.ob n _ a en ea;exact .dK e1
  . cases e
 | _=>cases e
theorem E5(a b:Ty)(hb:b≠ .non):abi K (.type a.n) (.type b.n)=Wv (a.Rg b):=by
 cases b<;>first | (exact absurd rfl hb) | (cases a<;>rfl)
theorem Ty.RS(h:Ty.of T=Wv t):T=t.n/\t≠ .non:=by
 unfold Ty.of at h;split at h<;>first | (cases h;exact⟨rfl,by decide⟩) | cases h
def Ab:List PV->Option (List Ty)
 | []=>Wv []
 | .ty T::r=>(match Ty.of T,Ab r with
  | some t,Wv ts=>Wv (t::ts)
  | _,_=>Wx)
 | _=>Wx
def nK:List PV->PH->RV PV:=λxs h=>match xs with
 | [x,.ty T]=>(match tyP h x,Ty.of T with
  | some a,Wv b=> .ok (.bl (a.Rg b)) h
  | _,_=> .no)
 | [x,.tup ts]=>(match tyP h x,Ab ts with
  | some a,Wv bs=> .ok (.bl (bs.any a.Rg)) h
  | _,_=> .no)
 | _=> .no
theorem zR: ∀{ts bs vs},Ab ts=Wv bs->ao K ρ H ts vs->vs=(bs.map Ty.n).map V.ty/\ ∀ b∈bs,b≠ .non
 | [],bs,vs,e,r=>by cases e;subst r;exact⟨rfl,λ_ m=>by cases m⟩
 | .ty T::t,bs,vs,e,r=>by
  simp only[Ab] at e;split at e
  . rename_i b bs' e1 e2;cases e;obtain⟨v,w,rfl,r1,r2⟩:=az.mp r;obtain⟨h1,h2⟩:=zR e2 r2;obtain⟨n1,n2⟩:=Ty.RS e1;refine⟨by rw[r1,h1,n1];rfl,λc m=>?_⟩;rcases WM.mp m with rfl | m
    . exact n2
    . exact h2 c m
  . cases e
 | .non::_,_,_,e,_=>by cases e
 | .bl _::_,_,_,e,_=>by cases e
 | .int _::_,_,_,e,_=>by cases e
 | .str _::_,_,_,e,_=>by cases e
 | .tup _::_,_,_,e,_=>by cases e
 | .ktup _::_,_,_,e,_=>by cases e
 | .ref _::_,_,_,e,_=>by cases e
theorem Ar(a:Ty): ∀(bs:List Ty),(∀ b∈bs,b≠ .non)->acX K (.type a.n) ((bs.map Ty.n).map YT)=Wv (bs.any a.Rg)
 | [],_=>rfl
 | b::r,h=>by
  have h1:=E5 (K:=K) a b (h b WW);have h2:=Ar a r λc m=>h c (WY _ m);simp only[WH,Yv,acX,h1,h2];cases a.Rg b<;>rfl
theorem Qw:cX X pg k-> ∃ r,aS X (.builtin "isinstance") r/\AY X.K r nK:=λA=>⟨_,DA,fun ρ h H xs us Q v h' s r q P=>by
 unfold nK at q;split at q
 . rename_i x T;split at q
   . rename_i a b e1 e2;cases q;obtain⟨u,w,rfl,r1,r2⟩:=lx r;subst r2;obtain⟨n1,n2⟩:=Ty.RS e2;exact .inl ⟨u,T,_,_,rfl,FX s e1 r1,by rw[n1];exact E5 a b n2,P _ ρ H (.refl _ _) s (by rw[rel])⟩
   . nomatch q
 . split at q
   . rename_i a bs e1 e2;cases q;obtain⟨u,w,rfl,r1,r2⟩:=lx r;obtain⟨p,vs,rfl,e3,e4⟩:=r2;obtain⟨h1,h2⟩:=zR e2 e4;subst h1;exact .inr ⟨u,p,_,_,_,rfl,e3,FX s e1 r1,Ar a bs h2,P _ ρ H (.refl _ _) s (by rw[rel])⟩
   . nomatch q
 . nomatch q⟩
noncomputable def wL:List PV->PH->RV PV:=λxs h=>match xs with
 | [.int i]=> .ok (.int i) h
 | [.bl b]=> .ok (.int (if b then 1 else 0)) h
 | _=> .no
theorem RB:cX X pg k-> ∃ r,aS X (.type "int") r/\AY X.K r wL:=λA=>⟨_,Jf,fun ρ h H xs us Q v h' s r q P=>by
 unfold wL at q;split at q
 . cases q;obtain⟨u,rfl,r1⟩:=aP r;have r:=r1;subst r;exact .inl ⟨_,rfl,P _ ρ H (.refl _ _) s (by rw[rel])⟩
 . cases q;obtain⟨u,rfl,r1⟩:=aP r;have r:=r1;subst r;exact .inr ⟨_,rfl,P _ ρ H (.refl _ _) s (by rw[rel])⟩
 . cases q⟩
def bf:List PV->PH->RV PV:=λxs h=>match xs with
 | [.tup ys]=> .ok (.tup ys) h
 | [.ref n]=>(match cH h n with
  | some ys=> .ok (.tup ys) h
  | none=> .no)
 | _=> .no
theorem GO:cX X pg k-> ∃ r,aS X (.type "tuple") r/\AY X.K r bf:=λA=>⟨_,Kc,fun ρ h H xs us Q v h' s r q P=>by
 unfold bf at q;split at q
 . cases q;obtain⟨u,rfl,r1⟩:=aP r;have r:=r1;have r':=r;obtain⟨a,vs,rfl,e1,e2⟩:=r;exact⟨a,vs,rfl,.inr ⟨.of e1,P _ ρ H (.refl _ _) s r'⟩⟩
 . split at q
   . rename_i ys e;cases q;obtain⟨u,rfl,r1⟩:=aP r;have r:=r1;obtain⟨a,vs,rfl,_,e1,e2⟩:=s.sq e r;exact⟨a,vs,rfl,.inl ⟨e1,λp hp=>oZ s e2 P p hp⟩⟩
   . nomatch q
 . nomatch q⟩
def jd:List PV->PH->RV PV:=λxs h=>match xs with
 | [x]=>(match itemsOf h x with
  | some ys=> .ok (.ref h.length) (h++[.lst ys])
  | none=> .no)
 | _=> .no
theorem Po:cX X pg k-> ∃ r,aS X (.type "list") r/\AY X.K r jd:=λA=>⟨_,uo,fun ρ h H xs us Q v h' s r q P=>by
 unfold jd at q;split at q
 . split at q
   . rename_i ys e;cases q;obtain⟨u,rfl,r1⟩:=aP r;have r:=r1;obtain⟨a,vs,rfl,z,r2⟩:=s.items e r;exact⟨a,vs,rfl,z,λp hp=>dj s r2 P p hp⟩
   . nomatch q
 . nomatch q⟩
noncomputable def yh:List PV->Option (List Bool)
 | []=>Wv []
 | .bl b::r=>(yh r).map (b:: ·)
 | _=>Wx
theorem AL: ∀{xs bs},yh xs=Wv bs->xs=bs.map PV.bl
 | [],bs,e=>by cases e;rfl
 | .bl b::r,bs,e=>by
  rw[yh] at e;cases q:yh r with
  | none=>rw[q] at e;cases e
  | some cs=>rw[q] at e;cases e;rw[AL q];rfl
 | .non::_,_,e=>by cases e
 | .int _::_,_,e=>by cases e
 | .str _::_,_,e=>by cases e
 | .tup _::_,_,e=>by cases e
 | .ktup _::_,_,e=>by cases e
 | .ref _::_,_,e=>by cases e
 | .ty _::_,_,e=>by cases e
theorem Ae: ∀{bs:List Bool}{vs},ao K ρ H (bs.map PV.bl) vs->vs=bs.map V.bl
 | [],vs,r=>cg.mp r
 | b::t,vs,r=>by
  obtain⟨v,w,rfl,r1,r2⟩:=az.mp r;rw[r1,Ae r2];rfl
def Ax{α :Type}(g:List PV->Option (List α))(f:List α ->PV):List PV->PH->RV PV:=λxs h=>match xs with
 | [.ref n]=>(match cH h n with
  | some ys=>(match g ys with
   | some bs=> .ok (f bs) h
   | none=> .no)
  | none=> .no)
 | _=> .no
theorem C7(q:Ax g f xs h= .ok v h'): ∃ n ys bs,xs=[.ref n]/\cH h n=Wv ys/\g ys=Wv bs/\v=f bs/\h'=h:=by
 unfold Ax at q;split at q
 . split at q
   . split at q
     . cases q;exact⟨_,_,_,rfl,by assumption,by assumption,rfl,rfl⟩
     . nomatch q
   . nomatch q
 . nomatch q
def IZ:=Ax yh λbs=> .bl (bs.all id)
theorem Qn:cX X pg k-> ∃ r,aS X (.builtin "all") r/\AY X.K r IZ:=λA=>⟨_,Hj A.calm,fun ρ h H xs us Q v h' s r q P=>by
 obtain⟨n,ys,bs,rfl,e1,e2,rfl,rfl⟩:=C7 q;obtain⟨u,rfl,r1⟩:=aP r;have r:=r1;obtain⟨a,vs,rfl,_,z,r2⟩:=s.sq e1 r;rw[AL e2] at r2;exact⟨a,bs,rfl,by rw[Ae r2] at z;exact z,P _ ρ H (.refl _ _) s (by rw[rel])⟩⟩
def bq:PV->PH->Bool:=λx h=>match x with
 | .ref n=>(match h[n]? with
  | some (.lst _)=>true
  | _=>false)
 | _=>false
theorem qj(s:cY K ρ h H)(r:rel K ρ H x v)(e:bq x h=true):Ua K "list" v H:=by
 cases x with
 | ref n =>
  simp only[bq] at e
  split at e
  . rename_i en;obtain⟨a,vs,rfl,_,e1,_⟩:=s.lst en r;exact .inl ⟨rfl,vs,.of e1⟩
  . cases e
 | _=>cases e
def aG:PV->List PV->PH->RV PV:=λx vs h=>match x,vs with
 | .ref n,[v]=>(match h[n]? with
  | some (.lst xs)=>if xs.length < WJ then .ok .non (h.set n (.lst (xs++[v]))) else .no
  | _=> .no)
 | _,_=> .no
theorem EK:cX X pg k-> ∃ r,KS X "list.append" r/\T6 X.K "list" r aG bq:=λA=>⟨_,Bt,fun ρ h H x x' s r e=>qj s r e,fun ρ h H x x' xs us Q v h' s rx rs q P=>by
 unfold aG at q;split at q
 . split at q
   . rename_i ys en;split at q
     . rename_i hl;cases q;obtain⟨a,vs,rfl,ea,e1,e2⟩:=s.lst en rx;obtain⟨u,rfl,r⟩:=aP rs;have g:Gr ρ H ρ (upd H a (.lst (vs++[u]))):=Gr.write (.inl ⟨_,e1⟩);exact⟨a,vs,u,rfl,rfl,e1,by rw[<- e2.len];exact hl,P _ ρ _ g (s.write en ea rfl rfl ⟨_,aX,ao.gr g _ _ (e2.app (ao.one r))⟩) (by rw[rel])⟩
     . nomatch q
   . nomatch q
 . nomatch q⟩
end
section
variable{K:Wz}{X:Cx}{pg:Tb}{k:Nat}{tg l:XH}
theorem tV{σ :L2.St}(I:Inv X pins σ H s): ∀ b∈[s.heap.objs.size],iD X pins H b:=λb hb=>by
 have e:b=s.heap.objs.size:=by simpa using hb
 subst e;exact I.yy (WG _) (I.bA.fresh (WG _))
theorem FU{pins:List (W2 × Obj)}{σ :L2.St}{H:Hp}{s:WK}{R:It->Hp->Prop}{a:W2}{xs:List V}(I:Inv X pins σ H s)(hq:hW X.K H a xs)(q:R (UQ X.K a) H):W3 (W8 X.prog X.w) X.A (adp (.ref a)) (QQ X pins σ tg R) X.xe s:=by
 obtain⟨ak,rv,p,hz⟩:=I.list hq;exact wpAny_pyIter_list p.isList ⟨s.heap.objs.size,[s.heap.objs.size],_,_,H,rfl,I.kept (t':=s.toks) (λb o e=>WB _ e),A8 a _,⟨_,WS _ rfl,rfl,rfl⟩,tV I,q⟩
theorem Dk{pins:List (W2 × Obj)}{σ :L2.St}{H:Hp}{s:WK}{R:It->Hp->Prop}{a:W2}{xs:List V}(I:Inv X pins σ H s)(hq:fw X.K H a xs)(q:R (Dy X.K a) H):W3 (W8 X.prog X.w) X.A (adp (.ref a)) (QQ X pins σ tg R) X.xe s:=by
 obtain⟨ak,rv,p,hz⟩:=I.tuple hq;exact YL (show s.heap.IsTuple a ak.toArray from p) ⟨s.heap.objs.size,[s.heap.objs.size],_,_,H,rfl,I.kept (t':=s.toks) (λb o e=>WB _ e),zJ a _,⟨_,WS _ rfl,rfl,rfl⟩,tV I,q⟩
theorem DL{pins:List (W2 × Obj)}{σ :L2.St}{H:Hp}{s:WK}{R:It->Hp->Prop}{z:Str}{t:Tok}(I:Inv X pins σ H s)(q:R (TN z) H):W3 (W8 X.prog X.w) X.A (adp (.str z t)) (QQ X pins σ tg R) X.xe s:=by
 cases ha:z.cps.all (· < 128)
 . exact wpAny_pyIter_wide ha ⟨s.heap.objs.size,[s.heap.objs.size],_,_,H,rfl,I.kept (t':=s.toks) (λb o e=>WB _ e),xn z t _ (by decide) (λA' hA=>Walks.strWide hA _ z t) (λ_ _ _ _ _ st h=>wpAny_pyIter_striter_wide st h),⟨_,WS _ rfl,rfl,rfl⟩,tV I,q⟩
 . exact wpAny_pyIter_ascii ha ⟨s.heap.objs.size,[s.heap.objs.size],_,_,H,rfl,I.kept (t':=s.toks) (λb o e=>WB _ e),xn z t _ (by decide) (λA' hA=>Walks.strAscii hA _ z t) (λ_ _ _ _ _ st h=>wpAny_pyIter_striter_ascii st h),⟨_,WS _ rfl,rfl,rfl⟩,tV I,q⟩
def Sr(K:Wz)(tl:TE):TI:=fun σ H R=>tl σ H λx H1=>(∃ a xs,x= .ref a/\hW K H1 a xs/\R (UQ K a) H1)\/(∃ a xs,x= .ref a/\fw K H1 a xs/\R (Dy K a) H1)\/ ∃ z,x= .str z/\R (TN z) H1
theorem Mr(hl:PE X l tl):PI X tg l (Sr X.K tl):=by
 intro pins s σ H R I h;refine hV (hl pins s σ H _ I h) λv s1 x H1 I1 r1 q1=>?_;rcases q1 with⟨a,xs,rfl,hq,q⟩ | ⟨a,xs,rfl,hq,q⟩ | ⟨z,rfl,q⟩
 . cases r1;exact FU I1 hq q
 . cases r1;exact Dk I1 hq q
 . obtain⟨t,rfl⟩:=r1;exact DL I1 q
def oE(x:PV)(h:PH):RV uj:=match x with
 | .tup xs=> .ok ⟨Wx,xs⟩ h
 | .ktup xs=> .ok ⟨Wx,xs⟩ h
 | .str z=> .ok ⟨Wx,z.cps.toList.map λc=> .str ⟨#[c]⟩⟩ h
 | .ref n=>(match cH h n with
  | some xs=> .ok ⟨Wv n,xs⟩ h
  | none=> .no)
 | _=> .no
def jh(a:ME):MI:=λc e h=>(a c e h).bind oE
end
section
variable{X:Cx}{pg:Tb}{k:Nat}{tg l:XH}{ma:ME}{ta:TE}
theorem Ob{K}(s1:SE c K ta ma):SI c K (Sr K ta) (jh ma):=fun ρ h H e σ R it h' s r q P=>by
 obtain⟨x,h1,e1,q⟩:=bind_eq.mp q;refine s1 ρ h H e σ _ x h1 s r e1 λx' ρ1 H1 g1 z1 r1=>?_;have tupc: ∀(xs:List PV),x.seq?=Wv xs->it=⟨Wx,xs⟩->h'=h1->(∃ a xs,x'= .ref a/\fw K H1 a xs/\R (Dy K a) H1):=λxs ex ei eh=>by
  subst ei eh;obtain⟨a,vs,rfl,zz,rr⟩:=rel.seq ex r1;refine⟨a,vs,rfl,zz,P ρ1 H1 _ g1 z1 λi ρ2 h2 H2 g s _=>?_⟩;have z2:=g.Gj zz;have r2:=ao.gr g _ _ rr;refine⟨λy e=>?_,λe=>⟨vs,z2,by rw[e,<- rr.len];exact WG _⟩⟩;obtain⟨v,d1,d2⟩:=r2.get e;refine⟨⟨vs,v,z2,d1⟩,?_⟩;rintro w H' ⟨rfl,hw⟩;have:=hw vs z2;rw[d1] at this;cases this;exact⟨ρ2,.refl _ _,s,d2⟩
 cases x with
 | tup xs=>cases q;exact .inr (.inl (tupc xs rfl rfl rfl))
 | ktup xs=>cases q;exact .inr (.inl (tupc xs rfl rfl rfl))
 | str z =>
  cases q
  refine .inr (.inr ⟨z,r1,P ρ1 H1 _ g1 z1 λi ρ2 h2 H2 g s _=>⟨λy e=>?_,λe=>by show i=z.cps.size;simpa using e⟩⟩)
  rw[WT] at e
  cases q:z.cps.toList[i]? with
  | none=>rw[q] at e;cases e
  | some c =>
   rw[q] at e
   cases e
   have hc:z.cps[i]?=Wv c:=by simpa using q
   refine⟨(Array.getElem?_eq_some_iff.mp hc).1,?_⟩
   rintro v H' ⟨rfl,c',e1,rfl⟩
   rw[hc] at e1
   cases e1
   exact⟨ρ2,.refl _ _,s,by rw[rel]⟩
 | ref n =>
  simp only[oE] at q
  split at q
  . rename_i xs en;cases q;obtain⟨a,vs,rfl,ea,zz,rr⟩:=z1.sq en r1;refine .inl ⟨a,vs,rfl,zz,P ρ1 H1 _ g1 z1 λi ρ2 h2 H2 g s hf=>?_⟩;have ea2:=g.pre _ _ ea;have hl:cH h2 n=Wv xs:=by
     have:h2[n]?=Wv (.lst xs)\/h2[n]?=Wv (.kZ xs):=by simpa [uj.kC] using hf
     unfold cH;rcases this with q | q<;>rw[q]
    obtain⟨a',vs2,e3,e4,z2,r2⟩:=s.sq hl (show rel K ρ2 H2 (.ref n) (.ref a) by exact⟨a,ea2,rfl⟩);cases e3;refine⟨λy e=>?_,λe=>⟨vs2,z2,by rw[e,<- r2.len];exact WG _⟩⟩;obtain⟨v,d1,d2⟩:=r2.get e;refine⟨⟨vs2,v,z2,d1⟩,?_⟩;rintro w H' ⟨rfl,hw⟩;have:=hw vs2 z2;rw[d1] at this;cases this;exact⟨ρ2,.refl _ _,s,d2⟩
  . cases q
 | _=>cases q
theorem Pa(ha:JE X pg k l ma):JI X pg k tg l (jh ma):=⟨λA=>by obtain⟨_,q1,s1⟩:=ha.h A;exact⟨_,⟨Mr q1.h⟩,Ob s1⟩⟩
def aH lo n:=(Xj n).map λ(i:Nat)=>PV.int (lo+(i))
def cO(r:MA):MI:=λc e h=>(r c e h).bind λvs h1=>match vs with
 | [.int j]=>if -(2 ^ 62)<=j/\j < 2 ^ 62 then .ok ⟨Wx,aH 0 j.toNat⟩ h1 else .no
 | _=> .no
theorem B3{K} lo n:VO K ρ H (Uq lo n) ⟨Wx,aH lo n⟩:=λi ρ1 h1 H1 g s _=>by
 refine⟨λy e=>?_,λe=>by show n<=i;rw[e];simp[aH]⟩;unfold aH at e;rw[WT] at e;rcases Y0 i n with z | z
 . rw[adb z] at e;cases e;exact⟨z,λv H'=>by rintro ⟨e1,e2⟩;exact by subst e1;subst e2;exact⟨ρ1,.refl _ _,s,by rw[rel]⟩⟩
 . rw[Yj (by simpa using z)] at e;cases e
variable{a b:XH}{p pos:Pos}{mr:MA}
theorem Bq(hg:Gl X "range")(ha:JA X pg k [a] mr)(hs:Xp [a] X.env=[(false,Yu a X.env)]:=by rfl):JI X pg k tg (.Call (.Name "range" p) [a] [] pos) (cO mr):=⟨λA =>
 by obtain⟨_,q1,s1⟩:=ha.h A;exact⟨_,⟨Cd hg (A.blt _ (by decide)) q1.h hs⟩,fun ρ h H e σ R it h' s r q P=>by
 obtain⟨vs,h1,e1,q⟩:=bind_eq.mp q
 refine s1 ρ h H e σ _ vs h1 s r e1 λus ρ1 H1 g1 z1 r1=>?_
 split at q
 . rename_i j;split at q
   . rename_i hj;cases q;obtain⟨u,rfl,r2⟩:=aP r1;subst r2;exact⟨j,rfl,hj.1,hj.2,P ρ1 H1 _ g1 z1 (B3 0 _)⟩
   . nomatch q
 . nomatch q⟩⟩
abbrev MP:=CF->aQ->PH->RV (List (Key × PV))
noncomputable def D8:MP:=λ_ _ h=> .ok [] h
def fG(a b:ME)(r:MP):MP:=λc e h=>(a c e h).bind λx h1=>match iI x with
 | some key=>(b c e h1).bind λv h2=>(r c e h2).bind λkvs h3=> .ok ((key,v)::kvs) h3
 | none=> .no
def cm(kvs more:List (Key × PV)):=more.foldl (λacc kv=>iA acc kv.1 kv.2) kvs
def vJ(r:MP):ME:=λc e h=>(r c e (h++[.dct []])).bind λkvs h1=>if h1[h.length]?=Wv (.dct [])/\kvs.length<=15 then .ok (.ref h.length) (h1.set h.length (.dct (cm [] kvs))) else .no
structure JP(X:Cx)(pg:Tb)(k:Nat)(pos:Pos)(ks:List (Option XH))(vs:List XH)(m:MP):Prop where
 h:cX X pg k-> ∃ t,QP X pos ks vs t/\ ∀ ρ h H e σ Q kvs h',cY X.K ρ h H->d6 X.K ρ H e σ ->m (run pg k) e h= .ok kvs h'->(∀ kws ρ' H',Gr ρ H ρ' H'->cY X.K ρ' h' H'->RK X.K ρ' H' kvs kws->Q (kws.map λkv=>(kV kv.1,kv.2)) H')->m5 t σ H Q
theorem NJ:JP X pg k pos [] [] D8:=⟨λA=>⟨_,Jk,fun ρ h H e σ Q kvs h' s r q P=>by cases q;exact P [] ρ H (.refl _ _) s .nil⟩⟩
theorem GA(hk:JE X pg k kk mk)(hv:JE X pg k v mv)(hr:JP X pg k pos ks vs mp):JP X pg k pos (Wv kk::ks) (v::vs) (fG mk mv mp):=⟨λA =>
 let ⟨_,q1,s1⟩:=hk.h A;let ⟨_,q2,s2⟩:=hv.h A;by obtain⟨_,q3,s3⟩:=hr.h A;exact⟨_,Dp q1 q2 q3,fun ρ h H e σ Q kvs h' s r q P=>by
 obtain⟨x,h1,e1,q⟩:=bind_eq.mp q
 refine s1 ρ h H e σ _ x h1 s r e1 λx' ρ1 H1 g1 z1 r1=>?_
 split at q
 . rename_i key ek;obtain⟨v,h2,e2,q⟩:=bind_eq.mp q;obtain⟨kvs',h3,e3,q⟩:=bind_eq.mp q;cases q;refine s2 ρ1 h1 H1 e σ _ v h2 z1 (r.gr g1) e2 λv' ρ2 H2 g2 z2 r2=>?_;refine s3 ρ2 h2 H2 e σ _ kvs' _ z2 (r.gr (g1.trans g2)) e3 λkws ρ3 H3 g3 z3 r3=>?_;have:=P ((key,v')::kws) ρ3 H3 ((g1.trans g2).trans g3) z3 (.cons ⟨rfl,rel.gr g3 _ _ r2⟩ r3);rw[fZ ek r1];exact this
 . cases q⟩⟩
theorem RK.merge{K}: ∀{more mw kvs kws},RK K ρ H more mw->RK K ρ H kvs kws->RK K ρ H (cm kvs more) (cU kws mw)
 | _,_,_,_,.nil,r=>r
 | _,_,_,_,.cons (a:=p) (b:=q) a t,r=>by
  show RK K ρ H (cm (iA _ p.1 p.2) _) (cU (putK _ q.1 q.2) _);refine RK.merge t ?_;rw[<- a.1];exact RK.put r a.2
theorem J0(h:JP X pg k pos ks vs mp)(hall:ks.all (·.isSome)=true)(hl:ks.length=vs.length)(h0:ks≠[])(h15:ks.length<=15):JE X pg k (.Dict ks vs pos) (vJ mp):=⟨λA =>
 by obtain⟨_,q1,s1⟩:=h.h A;exact⟨_,ID q1 hall hl h0 h15,fun ρ h H e σ Q v h' s r q P p hp=>by
 obtain⟨kvs,h1,e1,q⟩:=bind_eq.mp q
 split at q
 . rename_i hc;cases q;have g0:Gr ρ H (ρ ++[p]) (upd H p (.dK [])):=Gr.new hp [p];have s0:cY X.K (ρ ++[p]) (h++[.dct []]) (upd H p (.dK [])):=s.new hp ⟨[],aX,.nil⟩;refine s1 (ρ ++[p]) _ _ e σ _ kvs h1 s0 (r.gr g0) e1 λkws ρ1 H1 g1 z1 r1=>?_;have ep:(ρ ++[p])[h.length]?=Wv p:=by rw[<- s.len,Xe (WG _)];simp
   have ep1:=g1.pre _ _ ep;obtain⟨kw0,e2,e3⟩:=z1.ob h.length _ p hc.1 ep1;cases e3;refine⟨e2,kws,rfl,by rw[<- RK.len r1];exact hc.2,?_⟩;have gw:Gr ρ1 H1 ρ1 (upd H1 p (.dK (cU [] kws))):=Gr.write (.inr ⟨_,e2⟩);refine P _ ρ1 _ ((g0.trans g1).trans gw) (z1.write hc.1 ep1 rfl rfl ⟨_,aX,RK.merge (Paired.jX gw r1) .nil⟩) ?_;exact⟨p,ep1,rfl⟩
 . cases q⟩⟩
noncomputable def uC:ME:=λ_ _ h=> .ok (.ref h.length) (h++[.dct []])
theorem Fm:JE X pg k (.Dict [] [] pos) uC:=⟨λA=>⟨_,Ed,fun ρ h H e σ Q v h' s r q P p hp=>by
 cases q;refine P _ (ρ ++[p]) _ (Gr.new hp [p]) (s.new hp ⟨[],aX,.nil⟩) ?_;exact⟨p,by rw[<- s.len,Xe (WG _)];simp,rfl⟩⟩⟩
def tF(kvs:List (Key × PV))(a:ME):ME:=λc e h=>(a c e h).bind λx h1=>match iI x with
 | some key=>(match cx kvs key with
  | some v=> .ok v h1
  | none=> .no)
 | none=> .no
variable{x:Str}{kvs:List (Key × PV)}{i:XH}{mi:ME}{pos':Pos}
theorem IG(hd:pg.xG x=Wv kvs)(hg:Gl X x)(hi:JE X pg k i mi)(hs:Hm i)(hdb:(x == ("__debug__"))=false:=by decide):JE X pg k (.Subscript (.Name x pos') i pos) (tF kvs mi):=⟨λA =>
 by obtain⟨a,kws,e1,e2,e3⟩:=A.xG x kvs hd;exact by obtain⟨_,q1,s1⟩:=hi.h A;exact⟨_,HX e2 (AB hg e1 hdb) q1 hs,fun ρ h H e σ Q v h' s r q P=>by
 obtain⟨y,h1,d1,q⟩:=bind_eq.mp q
 refine s1 ρ h H e σ _ y h1 s r d1 λy' ρ1 H1 g1 z1 r1=>?_
 split at q
 . rename_i key ek;split at q
   . rename_i w ew;cases q;obtain⟨u,f1,f2⟩:=RK.some (e3 ρ1 H1) ew;exact⟨key,u,fZ ek r1,f1,P _ ρ1 H1 g1 z1 f2⟩
   . nomatch q
 . nomatch q⟩⟩
def Ac(d a b:ME):ME:=λc e h=>(d c e h).bind λx h1=>if gS h1 x=true then(a c e h1).bind (λy h2=>(b c e h2).bind λz h3=>match x,iI y with
 | .ref n,Wv key=>(match h3[n]? with
  | some (.dct kvs)=> .ok ((cx kvs key).getD z) h3
  | _=> .no)
 | _,_=> .no) else .no
theorem Jn(ho:JE X pg k o md)(he:JE X pg k e me)(hf:JE X pg k f mf)(m:M2 X o "get" apos e f cpos):JE X pg k (.Call (.Attribute o "get" apos) [e,f] [] cpos) (Ac md me mf):=⟨λA =>
 let ⟨_,q1,s1⟩:=ho.h A;let ⟨_,q2,s2⟩:=he.h A;let ⟨_,q3,s3⟩:=hf.h A;⟨_,E6 A.hu q1 q2 q3 m,fun ρ h H e σ Q v h' s r q P=>by
 obtain⟨x,h1,e1,q⟩:=bind_eq.mp q
 refine s1 ρ h H e σ _ x h1 s r e1 λx' ρ1 H1 g1 z1 r1=>?_
 split at q
 . rename_i hd;obtain⟨y,h2,e2,q⟩:=bind_eq.mp q;obtain⟨z,h3,e3,q⟩:=bind_eq.mp q;cases x with
   | ref n =>
    obtain⟨a,ea,rfl⟩:=r1
    refine⟨a,rfl,?_,?_⟩
    . simp only[gS] at hd;split at hd
      . rename_i kvs0 en;obtain⟨kws,d1,_⟩:=z1.ob n _ a en ea;exact .inl ⟨kws,.inl d1⟩
      . cases hd
    refine s2 ρ1 h1 H1 e σ _ y h2 z1 (r.gr g1) e2 λy' ρ2 H2 g2 z2 r2=>?_
    refine s3 ρ2 h2 H2 e σ _ z h3 z2 (r.gr (g1.trans g2)) e3 λz' ρ3 H3 g3 z3 r3=>?_
    cases ek:iI y with
    | none=>simp only[ek] at q;nomatch q
    | some key =>
     simp only[ek] at q
     split at q
     . rename_i kvs en;cases q;obtain⟨kws,d1,d2⟩:=z3.ob n _ a en (g3.pre _ _ (g2.pre _ _ ea));have:=fZ ek r2;subst this;refine⟨_,ka.k (k:=key) d1,P _ ρ3 H3 ((g1.trans g2).trans g3) z3 ?_⟩;have:=RK.val key d2;cases p1:cx kvs key<;>cases p2:iq kws key<;>rw[p1,p2] at this<;>first | exact r3 | exact this | exact YU this
     . nomatch q
   | _=>cases hd
 . nomatch q⟩⟩
end
section
variable{K:Wz}{X:Cx}{pg:Tb}{k:Nat}
def pairP?:PV->Option (Key × PV)
 | .tup [a,v]=>(iI a).map λk=>(k,v)
 | _=>Wx
noncomputable def jF:List PV->Option (List (Key × PV))
 | []=>Wv []
 | x::r=>(match pairP? x,jF r with
  | some p,Wv ps=>Wv (p::ps)
  | _,_=>Wx)
section
variable{prog:Xy}{w:X0}{A:Yk}{E:WC->WK->Prop}{s:WK}
theorem pO{p:W2}{kvs:List (Key × WC)}{R:WC->WK->Prop}(hS:(p == X9)=false)(hp:s.heap.DictOf (aI prog w) p kvs)(hz:kvs.length<=WJ)
  (q: ∀ g:X8,g.DictOf (aI prog w) s.heap.objs.size (merged [] kvs)->(∀ b o,s.heap.get? b=Wv o->g.get? b=Wv o)->R (.ref s.heap.objs.size) { s with heap:=g}) :
  W3 (W8 prog w) A (call (.type "dict") [.ref p]) R E s:=by
 let g0:=s.heap.push { cls:= .type "dict",data:= .dict #[]}
 have up: ∀ b o,s.heap.get? b=Wv o->g0.get? b=Wv o:=λb o e=>WB _ e;have dn:g0.DictOf (aI prog w) s.heap.objs.size []:=acx s.heap;have dp:=hp.at λo e=>up p o e;have ne:s.heap.objs.size≠p:=λe=>by
  obtain⟨o,_,_,ho,_⟩:=hp;exact absurd (WN ho) (by rw[e];exact Xt _)
 refine acQ (Q₁ :=λz u=>z= .ref s.heap.objs.size/\u={ s with heap:=g0}) F.kt_called_dict (F.kt_typeCall_dict_1 _) F.entry_dict_init (kt_code_dict_new _ ⟨rfl,rfl⟩) ?_;rintro obj s1 ⟨rfl,rfl⟩;refine⟨dn.typeIs,F.args_dict_init_2 _ _,?_⟩
 with_unfolding_all refine Ww (m:=abO _ _) (Ww (acF dn.typeIs (WI ?_)))
 show W3 _ _ (ab6 "dict.__init__" s.heap.objs.size (.ref p) [] .none) _ _ _;refine Ww (Zt dp.typeIs ?_);refine Ww (Ww (Ww (ab9 dp.typeIs isSubtype_dict_dict ?_)));refine Ww (aai dp.typeIs F.slot_dict_iter.lookup (WI ?_));refine Ww (WI (wpAny_mergeDict (hsz:=by simpa using hz) ne hS dn dp λg dg _ sb=>?_));exact Ww (WI (WI ⟨rfl,q g dg λb o e=>(sb.2 b (W7 (WN e))).trans (up b o e)⟩))
end
def N5:List V->Hp->VK->Prop:=λxs H Q=> ∃ p kvs,xs=[.ref p]/\H p=Wv (.dK kvs)/\kvs.length<=WJ/\ ∀ d,H d=Wx->Q (.ref d) (upd H d (.dK (cU [] kvs)))
theorem zv:aS X (.type "dict") N5:=by
 intro pins s σ H xs us Q I r h;obtain⟨p,kvs,rfl,hp,hz,q⟩:=h;obtain⟨u,rfl,ru⟩:=vals1 r;cases(show u=W6 p from ru);obtain⟨z1,n1,vs,r1,d1⟩:=wa I.bA hp;refine pO n1 d1 (by rw[<- r1.length];exact z1) λg dd keep=>?_;have hle:(cU [] kvs).length<=WJ:=by have:=eT kvs [];simp at this;omega
 obtain⟨hn,I'⟩:=I.mX (a:=s.heap.objs.size) (o:= .dK (cU [] kvs)) (t':=s.toks) keep (YS (WG _)) (uB hle (beq_eq_false_iff_ne.mpr (Za (W7 I.big))) (KV.wJ r1) dd);exact⟨.ref _,_,I',rfl,q _ hn⟩
def xw:List PV->PH->RV PV:=λxs h=>match xs with
 | [.tup ys]=>(match jF ys with
  | some kvs=>if ys.length < WJ then .ok (.ref h.length) (h++[.dct (cm [] kvs)]) else .no
  | none=> .no)
 | [.ref n]=>(match h[n]? with
  | some (.dct kvs)=>if kvs.length<=WJ then .ok (.ref h.length) (h++[.dct (cm [] kvs)]) else .no
  | _=> .no)
 | _=> .no
theorem Kj(e:pairP? x=Wv p)(r:rel K ρ H x v): ∃ q ,tM H v q/\p.1=q.1/\rel K ρ H p.2 q.2:=by
 cases x with
 | tup xs =>
  match xs,e with
  | [a,w],e =>
   simp only[pairP?] at e
   cases q:iI a with
   | none=>rw[q] at e;cases e
   | some key =>
    rw[q] at e
    cases e
    obtain⟨b,vs,rfl,e1,e2⟩:=r
    obtain⟨u,u',rfl,r1,r2⟩:=lx e2
    have:=fZ q r1
    subst this
    exact⟨(key,u'),⟨b,rfl,e1⟩,rfl,r2⟩
 | _=>cases e
theorem wt: ∀{xs kvs vs},jF xs=Wv kvs->ao K ρ H xs vs-> ∃ kws,XZ (tM H) vs kws/\RK K ρ H kvs kws
 | [],kvs,vs,e,r=>by cases e;subst r;exact⟨[],.nil,.nil⟩
 | x::t,kvs,vs,e,r=>by
  simp only[jF] at e;split at e
  . rename_i p ps e1 e2;cases e;obtain⟨v,w,rfl,r1,r2⟩:=az.mp r;obtain⟨q,a,b⟩:=Kj e1 r1;obtain⟨qs,c,d⟩:=wt e2 r2;exact⟨q::qs,.cons a c,.cons b d⟩
  . cases e
theorem zX(s:cY K ρ h H)(r:RK K ρ H kvs kws)(P:d7 K ρ H (.ref h.length) (h++[.dct kvs]) Q) p (hp:H p=Wx):Q (.ref p) (upd H p (.dK kws)):=by
 refine P _ (ρ ++[p]) _ (Gr.new hp [p]) (s.new hp ⟨kws,aX,Paired.jX (Gr.new hp [p]) r⟩) ?_;exact⟨p,by rw[<- s.len,Xe (WG _)];simp,rfl⟩
theorem LJ:cX X pg k-> ∃ r,aS X (.type "dict") r/\AY X.K r xw:=λA=>⟨_,(Ew A.calm).or zv,fun ρ h H xs us Q v h' s r q P=>by
 unfold xw at q;split at q
 . split at q
   . rename_i kvs e;split at q
     . rename_i hl;cases q;obtain⟨u,rfl,r1⟩:=aP r;obtain⟨a,vs,rfl,e1,e2⟩:=r1;obtain⟨kws,c,d⟩:=wt e e2;exact .inl ⟨a,vs,kws,rfl,e1,c,by rw[<- e2.len];exact hl,λp hp=>zX s (RK.merge d .nil) P p hp⟩
     . nomatch q
   . nomatch q
 . rename_i n;split at q
   . rename_i kvs en;split at q
     . rename_i hl;cases q;obtain⟨u,rfl,r1⟩:=aP r;obtain⟨a,ea,rfl⟩:=r1;obtain⟨kws,e1,e2⟩:=s.ob n _ a en ea;exact .inr ⟨a,kws,rfl,e1,by rw[<- RK.len e2];exact hl,λp hp=>zX s (RK.merge e2 .nil) P p hp⟩
     . nomatch q
   . nomatch q
 . nomatch q⟩
theorem m4{α :Type}{le}: ∀{l1 l2:List α},(∀ a∈l1,∀ b∈l1,le a b->le b a->a=b)->l1.Perm l2->l1.Pairwise le->l2.Pairwise le->l1=l2
 | [],l2,_,p,_,_=>List.Perm.nil_eq p
 | a::r,[],_,p,_,_=>absurd p.length_eq (by simp)
 | a::r,b::r',anti,p,h1,h2=>by
  rw[abp] at h1 h2;have hb:=p.mem_iff.mpr WW;have e:a=b:=by
   rcases WM.mp (p.mem_iff.mp (WW)) with e | m
   . exact e
   . rcases WM.mp hb with e | m'
     . exact e.symm
     . exact anti a WW b hb (h1.1 b m') (h2.1 a m)
  subst e;rw[m4 (λx hx y hy=>anti x (WY _ hx) y (WY _ hy)) (List.Perm.cons_inv p) h1.2 h2.2]
noncomputable def rh a b:= !decide (jU b a)
def d9(ss:List Str):=ss.mergeSort rh
theorem iw a b c (h1:rh a b=true) (h2:rh b c=true):rh a c=true:=by
 unfold rh at h1 h2 ⊢;simp only[YC,decide_eq_false_iff_not] at h1 h2 ⊢;intro h;by_cases e:b=a
 . subst e;exact h2 h
 . rcases nj e with z | z
   . exact h1 z
   . exact h2 (jS h z)
theorem j5 a b:(rh a b||rh b a)=true:=by
 unfold rh;by_cases h:jU b a
 . simp [sM h]
 . simp [h]
theorem vX(h1 : rh a b = true)(h2 : rh b a = true) : a = b := by
  unfold rh at h1 h2;simp only [YC, decide_eq_false_iff_not] at h1 h2
  exact Decidable.byContradiction fun e => by rcases nj e with z | z; · exact h2 z
                                              . exact h1 z
theorem Cq: ∀{r p},risingS p r=true->(p::r).Pairwise λa b=>rh a b=true:=by
 intro r
 induction r with
 | nil=>intro p _;exact ab8 _ _
 | cons x r ih =>
  intro p h
  simp only[risingS,WX] at h
  have h1:rh p x=true:=by
   have:=h.1;rw[ltCps_eq] at this;exact this
  have h2:=ih h.2
  refine abp.mpr ⟨λy hy=>?_,h2⟩
  rcases WM.mp hy with rfl | m
  . exact h1
  . exact iw _ _ _ h1 ((abp.mp h2).1 y m)
theorem By(h:abD ss=true):ss.Pairwise λa b=>rh a b=true:=by
 cases ss with
 | nil=>exact .nil
 | cons p r=>exact Cq h
theorem qC(p:ss'.Perm ss)(h:abD ss'=true):ss'=d9 ss :=
 m4 (le:=λa b=>rh a b=true) (λ_ _ _ _ h1 h2=>vX h1 h2) (p.trans (Z6 ss rh).symm) (By h) (Zn iw (λa b=>by simpa using j5 a b) ss)
noncomputable def fu:List PV->Option (List Str)
 | []=>Wv []
 | .str x::r=>(fu r).map (x:: ·)
 | _=>Wx
theorem fc: ∀{xs ss},fu xs=Wv ss->xs=ss.map PV.str
 | [],bs,e=>by cases e;rfl
 | .str b::r,bs,e=>by
  rw[fu] at e;cases q:fu r with
  | none=>rw[q] at e;cases e
  | some cs=>rw[q] at e;cases e;rw[fc q];rfl
 | .non::_,_,e=>by cases e
 | .bl _::_,_,e=>by cases e
 | .int _::_,_,e=>by cases e
 | .tup _::_,_,e=>by cases e
 | .ktup _::_,_,e=>by cases e
 | .ref _::_,_,e=>by cases e
 | .ty _::_,_,e=>by cases e
theorem dC: ∀ ss,fu (ss.map PV.str)=Wv ss
 | []=>rfl
 | b::r=>by rw[WH,fu,dC r];rfl
theorem b6: ∀{ss:List Str}{vs},ao K ρ H (ss.map PV.str) vs↔vs=ss.map V.str
 | [],vs=>cg
 | b::t,vs=>by
  constructor
  . rintro ⟨v,w,rfl,r1,r2⟩;rw[r1,b6.mp r2];rfl
  . rintro rfl;exact⟨.str b,t.map V.str,rfl,by rw[rel],b6.mpr rfl⟩
noncomputable def yj:List PV->Option (List (Str × Int))
 | []=>Wv []
 | .tup [.str x,.int i]::r=>(yj r).map ((x,i):: ·)
 | _=>Wx
noncomputable def d8(q:Str × Int):PV:= .tup [.str q.1,.int q.2]
theorem vR: ∀ ps,yj (ps.map d8)=Wv ps
 | []=>rfl
 | b::r=>by rw[WH,d8,yj,vR r];rfl
theorem G2: ∀{xs ps},yj xs=Wv ps->xs=ps.map d8:=by
 intro xs
 induction xs with
 | nil=>intro ps e;cases e;rfl
 | cons x r ih =>
  intro ps e
  unfold yj at e
  split at e
  . rename_i h;cases h
  . rename_i y i r' h;cases h;cases q:yj r with
    | none=>rw[q] at e;cases e
    | some cs=>rw[q] at e;cases e;rw[ih q];rfl
  . cases e
theorem lN: ∀{ps vs},ao K ρ H (ps.map d8) vs↔XZ (pG H) vs ps
 | [],vs=>⟨λh=>by subst h;exact .nil,λh=>by cases h;exact cg.mpr rfl⟩
 | b::t,vs=>by
  constructor
  . rintro ⟨v,w,rfl,r1,r2⟩;obtain⟨a,us,rfl,e1,e2⟩:=r1;obtain⟨u,u',rfl,d1,d2⟩:=lx e2;subst d1 d2;exact .cons ⟨a,rfl,e1⟩ (lN.mp r2)
  . intro h;cases h with
    | cons h1 h2 =>
     obtain⟨a,rfl,e1⟩:=h1
     refine⟨.ref a,_,rfl,?_,lN.mpr h2⟩
     exact⟨a,_,rfl,e1,az.mpr ⟨_,_,rfl,by rw[rel],ao.one (by rw[rel])⟩⟩
theorem DG: ∀{ps:List (Str × Int)},(ps.map (·.1)).Nodup-> ∀{a b},a∈ps->b∈ps->a.1=b.1->a=b
 | [],_,a,b,ha,_,_=>by cases ha
 | p::r,nd,a,b,ha,hb,e=>by
  rw[WH] at nd;rw[Y9] at nd;rcases WM.mp ha with ha | ha<;>rcases WM.mp hb with hb | hb
  . rw[ha,hb]
  . exact absurd (by rw[<- ha,e];exact Xk.mpr ⟨b,hb,rfl⟩) nd.1
  . exact absurd (by rw[<- hb,<- e];exact Xk.mpr ⟨a,ha,rfl⟩) nd.1
  . exact DG nd.2 ha hb e
def pY(ps:List (Str × Int)):=ps.mergeSort λa b=>rh a.1 b.1
theorem DS(nd:(ps.map (·.1)).Nodup)(p:ps'.Perm ps)(h:(ps'.map (·.1)).Pairwise jU):ps'=pY ps:=by
 have h2:ps'.Pairwise λa b=>rh a.1 b.1=true:=by
  rw[aaA] at h;exact h.imp λ{a b} z=>by unfold rh;simp[sM z]
 refine m4 (le:=λa b=>rh a.1 b.1=true) (λa ha b hb z1 z2=>?_) (p.trans (Z6 ps _).symm) h2 (Zn (λa b c=>iw a.1 b.1 c.1) (λa b=>by simpa using j5 a.1 b.1) ps);have e:=vX z1 z2;have ha':=p.mem_iff.mp ha;have hb':=p.mem_iff.mp hb;exact DG nd ha' hb' e
def mF:List PV->PH->RV PV:=λxs h=>match xs with
 | [x]=>(match itemsOf h x with
  | some ys=>(match x with
   | .ref _=>(match fu ys with
    | some ss=>if ss.length < 64 then .ok (.ref h.length) (h++[.lst ((d9 ss).map PV.str)]) else .no
    | none=>(match yj ys with
     | some ps=>if ps.length < 64/\(ps.map (·.1)).Nodup then .ok (.ref h.length) (h++[.lst ((pY ps).map d8)]) else .no
     | none=> .no))
   | _=> .no)
  | none=>(match x with
   | .ref n=>(match h[n]? with
    | some (.dct kvs)=>(match fu (kvs.map λkv=>match kv.1 with | .inl i=> .int i | .inr z=> .str z) with
     | some ss=>if ss.length < 64 then .ok (.ref h.length) (h++[.lst ((d9 ss).map PV.str)]) else .no
     | none=> .no)
    | _=> .no)
   | _=> .no))
 | _=> .no
theorem RK.keys: ∀{kvs kws},RK K ρ H kvs kws->kws.map (·.1)=kvs.map (·.1)
 | _,_,.nil=>rfl
 | _,_,.cons a t=>by rw[WH,WH,RK.keys t,a.1]
theorem keys_str: ∀{kvs:List (Key × PV)}{ss:List Str},(kvs.map λkv=>(match kv.1 with | .inl i=>PV.int i | .inr z=>PV.str z))=ss.map PV.str->kvs.map (·.1)=ss.map YQ
 | [],ss,e=>by cases ss with | nil=>rfl | cons=>cases e
 | (.inl i,v)::r,ss,e=>by cases ss with | nil=>cases e | cons=>simp at e
 | (.inr z,v)::r,ss,e=>by
  cases ss with
  | nil=>cases e
  | cons y t =>
   rw[WH,WH,aeo] at e
   rw[WH,keys_str e.2]
   cases e.1;rfl
theorem wA(A:cX X pg k):AY X.K (λxs H Q=>Fo X.K xs H Q\/(E3 xs H Q\/zC X.K xs H Q)) mF:=fun ρ h H xs us Q v h' s r q P=>by
 unfold mF at q;split at q
 . obtain⟨u,rfl,r1⟩:=aP r;split at q
   . rename_i ys e;split at q
     . obtain⟨a,vs,rfl,_,z,r2⟩:=s.sq e r1;split at q
       . rename_i ss es;split at q
         . rename_i hl;cases q;rw[fc es,b6] at r2;subst r2;refine .inl ⟨a,ss,rfl,z,hl,λl ss' hp pm so=>?_⟩;rw[qC pm so];exact dj s (b6.mpr rfl) P l hp
         . nomatch q
       . split at q
         . rename_i ps eps;split at q
           . rename_i hl;cases q;rw[G2 eps,lN] at r2;refine .inr (.inr ⟨a,vs,ps,rfl,z,r2,hl.1,hl.2,λl ys' ps' hp pm so pr=>?_⟩);have:=DS hl.2 pm so;subst this;exact dj s (lN.mpr pr) P l hp
           . nomatch q
         . nomatch q
     . nomatch q
   . split at q
     . rename_i n _;split at q
       . rename_i kvs en;split at q
         . rename_i ss es;split at q
           . rename_i hl;cases q;obtain⟨a,ea,rfl⟩:=r1;obtain⟨kws,e1,e2⟩:=s.ob n _ a en ea;refine .inr (.inl ⟨a,kws,ss,rfl,e1,by rw[RK.keys e2];exact keys_str (fc es),hl,λl ss' hp pm so=>?_⟩);rw[qC pm so];exact dj s (b6.mpr rfl) P l hp
           . nomatch q
         . nomatch q
       . nomatch q
     . nomatch q
 . nomatch q
end
section
variable{X:Cx}{pins:List (W2 × Obj)}{σ :L2.St}{H:Hp}{s:WK}{h':X8}
theorem qu{turned:List W2}(I:Inv X pins σ H s)(kp: ∀ b o,b ∉ turned->s.heap.get? b=Wv o->h'.get? b=Wv o)(fp: ∀ b∈turned,iD X pins H b):Inv X pins σ H { s with heap:=h',toks:=t'}:=by
 have away: ∀ b u,H b=Wv u->b ∉ turned:=λb u e m=>by
  have:=(fp b m).1;rw[e] at this;cases this
 refine I.step (g':=s.gens) (d':=s.drawn) (ch:=turned) (λb m=>?_) (λb o _ _ n e _=>kp b o n e) (λb o _ _ n e _=>⟨o.slots,kp b o n e⟩) (λ_ _ _ _ e=>e) (λb o n e=>⟨o,kp b o n e⟩) (λ_ _ e=>e) (λ_ _ _ e=>e) (λb ps e=>⟨#[],by rw[e];simp⟩) (λm hm=>?_) (λb u e=>?_) I.bare
 . obtain⟨_,a2,_,a4,a5,a6⟩:=fp b m;exact⟨a4,a2,a5,a6⟩
 . obtain⟨o,es,ep,ho,r⟩:=hm;exact⟨o,es,ep,kp _ o (λm=>(fp _ m).2.1 rfl) ho,r⟩
 . refine(I.bA b u e).rV (λc v hc q=>kp c v ?_ q) (λ_ q=>q) λ_ _ q=>q;rcases hc with z | z
   . rw[z];exact away b u e
   . exact away c _ z
theorem mU{turned:List W2}{p:W2}(I:Inv X pins σ H s)(kp: ∀ b o,b ∉ turned->s.heap.get? b=Wv o->h'.get? b=Wv o)(fp: ∀ b∈turned,iD X pins H b)(hp:s.heap.objs.size<=p)
  (new:aW X.prog X.w (upd H p (.tup vs)) h' p (.tup vs)):Inv X pins σ (upd H p (.tup vs)) { s with heap:=h',toks:=t'}:=by
 have hn:=I.bA.fresh hp;have away: ∀ b u,H b=Wv u->b ∉ turned:=λb u e m=>by
  have:=(fp b m).1;rw[e] at this;cases this
 have old: ∀ b o,s.heap.get? b=Wv o->b≠p:=λb o e z=>absurd (WQ (WN e) (z ▸ hp)) (Xt _);refine I.step (g':=s.gens) (d':=s.drawn) (ch:=turned) (λb m=>?_) (λb o _ _ n e _=>kp b o n e) (λb o _ _ n e _=>⟨o.slots,kp b o n e⟩) (λb o _ e n=>by rw[ax (old b o e)];exact n) (λb o n e=>⟨o,kp b o n e⟩)
  (λb xs e=>by rw[ax (av e hn)];exact e) (λb o u e=>by rw[ax (av e hn)];exact e) (λb ps e=>⟨#[],by rw[ax (av e hn),e];simp⟩) (λm hm=>?_) (λb u e=>?_) I.bare
 . obtain⟨_,a2,_,a4,a5,a6⟩:=fp b m;exact⟨a4,a2,a5,a6⟩
 . obtain⟨o,es,ep,ho,r⟩:=hm;exact⟨o,es,ep,kp _ o (λm=>(fp _ m).2.1 rfl) ho,r⟩
 . by_cases hb:b=p
   . subst hb;rw[aX] at e;cases e;exact new
   . rw[ax hb] at e;refine(I.bA b u e).rV (λc v hc q=>kp c v ?_ q) (λc q=>by rw[ax (av q hn)];exact q) λc xs q=>by rw[ax (av q hn)];exact q
     rcases hc with z | z
     . rw[z];exact away b u e
     . exact away c _ z
end
def VT(K : Wz)(a1 a2 : W2) : It :=
  ⟨λi H => ∃ xs ys x y, fw K H a1 xs /\ fw K H a2 ys /\ xs[i]? = Wv x /\ ys[i]? = Wv y,
   λi H v H' => ∃ p x y, H p = Wx /\ v = .ref p /\ H' = upd H p (.tup [x, y]) /\ (∀ xs, fw K H a1 xs -> xs[i]? = Wv x) /\ ∀ ys, fw K H a2 ys -> ys[i]? = Wv y,
   λi H => ∃ xs ys, fw K H a1 xs /\ fw K H a2 ys /\ (xs.length <= i ∨ ys.length <= i)⟩
theorem Be{TI TO}(Z:v9 h z TI TO i1 i2 l1 l2 k)(kp: ∀ b∈[z,TI,TO,i1,i2],∀ o,h.get? b=Wv o->h'.get? b=Wv o):v9 h' z TI TO i1 i2 l1 l2 k:=by
 obtain ⟨a,b,⟨u,v,c⟩,⟨o1,d1,d2⟩,⟨o2,e1,e2⟩⟩:=Z;exact ⟨kp _ (by simp) _ a,kp _ (by simp) _ b,⟨u,v,kp _ (by simp) _ c⟩,⟨o1,kp _ (by simp) _ d1,d2⟩,⟨o2,kp _ (by simp) _ e1,e2⟩⟩
theorem Ei{K TI TO}(D:aad z TI TO i1 i2 a1 a2) :
  Turn P w K (.Tuple els j pos) (VT K a1 a2) [z,TI,TO,i1,i2] z (λi h=>v9 h z TI TO i1 i2 a1 a2 i) where
 mem:=by simp
 obj:=λi h Z b hb=>by
  obtain⟨e1,e2,⟨u,v,e3⟩,⟨o4,e4,_,d4⟩,⟨o5,e5,_,d5⟩⟩:=Z;simp only[W4,or_false,WM] at hb;rcases hb with rfl | rfl | rfl | rfl | rfl
  . exact⟨_,e1,λv q=>by cases q⟩
  . exact⟨_,e2,λv q=>by cases q⟩
  . exact⟨_,e3,λv q=>by cases q⟩
  . exact⟨_,e4,λv q=>by rw[d4] at q;nomatch q⟩
  . exact⟨_,e5,λv q=>by rw[d5] at q;nomatch q⟩
 keep:=λi h h' Z kp=>Be Z kp
 item:=by
  intro X hP hw hK hc i pins s σ H E I hf Z hg;subst hP hw hK;obtain⟨xs,ys,x,y,s1,s2,ex,ey⟩:=hg;obtain⟨us,ru,pu,_⟩:=I.tuple s1;obtain⟨ws,rw',pw,_⟩:=I.tuple s2;obtain⟨ux,eu,rx⟩:=ru.get ex;obtain⟨uy,ew,ry⟩:=rw'.get ey;refine pW D Z pu pw (by simpa using eu) (by simpa using ew) λh1 f1 f2 f3 f4 f5 f6 f7=>⟨_,rfl,?_⟩
  refine wpAny_letOwnedTupleGo_zip (s:={ s with heap:=h1}) f1 λh2 g1 g2=>?_;have ex1:=g2.extBut;have zlt:=WN Z.Br;have pz:=Yq zlt;have new:=ex1 _ _ pz f6;have hn:=I.bA.fresh (WG _);have I2:Inv X pins σ (upd H s.heap.objs.size (.tup [x,y])) { s with heap:=h2,toks:=s.toks}:=by
   refine mU (turned:=[z,TO,i1,i2]) I (λb o nb e=>?_) (λb hb=>hf b ?_) (WG _) ?_
   . simp only[WM,W4,or_false,not_or] at nb;exact ex1 _ _ nb.1 (f7 b o nb.1 nb.2.1 nb.2.2.1 nb.2.2.2 e)
   . simp only[WM,W4,or_false] at hb ⊢;rcases hb with rfl | rfl | rfl | rfl<;>simp
   . exact⟨by show 2<=WJ;decide,[ux,uy],.cons rx (.cons ry .nil),_,new,rfl,_,rfl,rfl⟩
  refine⟨.ref s.heap.objs.size,upd H s.heap.objs.size (.tup [x,y]),I2,rfl,⟨_,x,y,hn,rfl,rfl,λxs' q=>?_,λys' q=>?_⟩,?_,λb hb=>?_⟩
  . rw[I.jW q s1];exact ex
  . rw[I.jW q s2];exact ey
  . obtain⟨o4,e4,c4⟩:=f4;obtain⟨o5,e5,c5⟩:=f5;exact⟨g1,ex1 _ _ D.TIz f2,⟨_,_,ex1 _ _ D.TOz f3⟩,⟨o4,ex1 _ _ D.i1z e4,c4⟩,⟨o5,ex1 _ _ D.i2z e5,c5⟩⟩
  . have hb0:=(hf b hb).1;have: ∃ o,s.heap.get? b=Wv o:=by
     obtain⟨e1,e2,⟨u,v,e3⟩,⟨o4,e4,_⟩,⟨o5,e5,_⟩⟩:=Z;simp only[W4,or_false,WM] at hb;rcases hb with rfl | rfl | rfl | rfl | rfl
     . exact⟨_,e1⟩
     . exact⟨_,e2⟩
     . exact⟨_,e3⟩
     . exact⟨_,e4⟩
     . exact⟨_,e5⟩
    obtain⟨o,eo⟩:=this;rw[ax (W7 (WN eo))];exact hb0
 done:=by
  intro X hP hw hK hc i pins s σ H E I hf Z hg;subst hP hw hK;obtain⟨xs,ys,s1,s2,he⟩:=hg;obtain⟨us,ru,pu,_⟩:=I.tuple s1;obtain⟨ws,rw',pw,_⟩:=I.tuple s2;refine rl (I.ok.hd hc) D Z pu pw ?_ λh1 kp=>⟨rfl,qu (turned:=[z,TO,i1,i2]) (t':=s.toks) I (λb o nb e=>?_) λb hb=>hf b ?_⟩
  . have l1:=ru.length;have l2:=rw'.length;rcases he with he | he
    . exact .inl (by simp;omega)
    . exact .inr (by simp;omega)
  . simp only[WM,W4,or_false,not_or] at nb;exact kp b o nb.1 nb.2.1 nb.2.2.1 nb.2.2.2 e
  . simp only[WM,W4,or_false] at hb ⊢;rcases hb with rfl | rfl | rfl | rfl<;>simp
 self:=λA i s Q E Z h=>acd Z.Br h
abbrev tI(a:W2):Obj:={ cls:= .type "tuple_iterator",data:= .fields #[.ref a,.int 0 0]}
abbrev Up(h:X8)(a b:W2):X8 :=
 Yt (Yt (Yt (Yt (Yt h (tI a)) (tI b)) { cls:= .type "tuple",data:= .seq #[.ref h.objs.size,.ref (h.objs.size+1)]}) { cls:= .type "tuple",data:= .seq #[.none,.none]})
  { cls:= .type "zip",data:= .fields #[.none,.bool false,.bool false,.ref (h.objs.size+2),.ref (h.objs.size+3)]}
theorem uI a b us ws:aei (Zx.«zip.__new__» ⟨[.type "zip",.ref a,.ref b],[]⟩) (λ_ R u=>u.heap.IsTuple a us/\u.heap.IsTuple b ws/\R (.ok (.ret (.ref (u.heap.objs.size+4)))) { u with heap:=Up u.heap a b}) :=
 .of_wp λprog w A R u hu=>by
  obtain⟨hp,gg,dd,tk,os⟩:=u;obtain⟨ha,hb,hr⟩:=hu;have sub:=sub_zip;have fa:=ha;have fb:Heap.IsTuple (Shared.heap ⟨hp.push (tI a),gg,dd,tk,os⟩) b ws:=by obtain⟨o,e,c⟩:=hb;exact⟨o,WB _ e,c⟩
  wp_walk using YL fa,YL fb
  refine⟨_,rfl,?_⟩;simp only[XT];exact hr
section
variable{X:Cx}{pg:Tb}{k:Nat}{a b:XH}{ma mb:ME}{p pos:Pos}{els:List XH}{j:Nat}{tpos:Pos}
theorem MF h l1 l2:v9 (Up h l1 l2) (h.objs.size+4) (h.objs.size+2) (h.objs.size+3) h.objs.size (h.objs.size+1) l1 l2 0/\(Up h l1 l2).objs.size=h.objs.size+5:=by
 have n1:(Yt h (tI l1)).objs.size=h.objs.size+1:=XT ..;have n2:(Yt (Yt h (tI l1)) (tI l2)).objs.size=h.objs.size+2:=by rw[XT,n1]
 have n3:(Yt (Yt (Yt h (tI l1)) (tI l2)) { cls:= .type "tuple",data:= .seq #[.ref h.objs.size,.ref (h.objs.size+1)]}).objs.size=h.objs.size+3:=by rw[XT,n2]
 have n4:(Yt (Yt (Yt (Yt h (tI l1)) (tI l2)) { cls:= .type "tuple",data:= .seq #[.ref h.objs.size,.ref (h.objs.size+1)]}) { cls:= .type "tuple",data:= .seq #[.none,.none]}).objs.size=h.objs.size+4:=by rw[XT,n3]
 refine⟨⟨?_,?_,⟨.none,.none,?_⟩,⟨tI l1,?_,rfl,rfl⟩,⟨tI l2,?_,rfl,rfl⟩⟩,by rw[XT,n4]⟩
 . rw[<- n4];exact WS _ rfl
 . refine WB _ (WB _ ?_);rw[<- n2];exact WS _ rfl
 . refine WB _ ?_;rw[<- n3];exact WS _ rfl
 . exact WB _ (WB _ (WB _ (WB _ (WS _ rfl))))
 . refine WB _ (WB _ (WB _ ?_));rw[<- n1];exact WS _ rfl
def Rx(K:Wz)(ta:TA):TI:=fun σ H R=>ta σ H λvs H1=> ∃ a1 a2 xs ys,vs=[.ref a1,.ref a2]/\fw K H1 a1 xs/\fw K H1 a2 ys/\R (VT K a1 a2) H1
theorem Og(hg:Gl X "zip")(hm:X.mg "zip" =Wx)(ha:PA X [a,b] ta)(hs:Xp [a,b] X.env=[(false,Yu a X.env),(false,Yu b X.env)])(hs2:Xp [b] X.env=[(false,Yu b X.env)]) :
  PI X (.Tuple els j tpos) (.Call (.Name "zip" p) [a,b] [] pos) (Rx X.K ta):=by
 intro pins s σ H R I h;refine Call_ (gY I hg hm boot_zip (XI (Bm (ha pos pins s σ H _ I h) λus s1 vs H1 I1 r1 ⟨a1,a2,xs,ys,e,q1,q2,q⟩=>?_) (by rw[hs,hs2]) (by rw[hs2];rfl)));subst e;cases r1 with
 | cons ra rr =>
  cases rr with
  | cons rb rr =>
   cases rr
   cases ra
   cases rb
   obtain⟨u1,_,p1,_⟩:=I1.tuple q1
   obtain⟨u2,_,p2,_⟩:=I1.tuple q2
   refine callType_new F.called_zip (by decide) (F.typeCall_zip_2 _ _) (F.newCall_zip_2 _ _) (λobj=>F.args_object_init_3 obj _ _) F.entry_zip_new (uI a1 a2 u1.toArray u2.toArray) ⟨p1,p2,?_⟩
   obtain⟨Z,zs⟩:=MF s1.heap a1 a2
   have lt1:=let ⟨_,e,_⟩:=p1;WN e
   have lt2:=let ⟨_,e,_⟩:=p2;WN e
   refine⟨⟨_,Z.Br,rfl⟩,acd Z.Br ?_⟩
   have kp: ∀ c o,s1.heap.get? c=Wv o->(Up s1.heap a1 a2).get? c=Wv o:=λc o e=>WB _ (WB _ (WB _ (WB _ (WB _ e))))
   refine⟨s1.heap.objs.size+4,[s1.heap.objs.size+4,s1.heap.objs.size+2,s1.heap.objs.size+3,s1.heap.objs.size,s1.heap.objs.size+1],_,_,H1,rfl,I1.kept (t':=s1.toks) kp,Ei (zipApart_new lt1 lt2),Z,λc hc=>?_,q⟩
   have hle:s1.heap.objs.size<=c:=by
    simp only[WM,W4,or_false] at hc;rcases hc with rfl | rfl | rfl | rfl | rfl<;>omega
   exact I1.yy hle (I1.bA.fresh hle)
def Ph(a b:ME):MI:=λc e h=>(a c e h).bind λx h1=>(b c e h1).bind λy h2=>match x.seq?,y.seq? with
 | some xs,Wv ys=> .ok ⟨Wx,(xs.zip ys).map λp=> .tup [p.1,p.2]⟩ h2
 | _,_=> .no
theorem MQ(hg:Gl X "zip")(ha:JE X pg k a ma)(hb:JE X pg k b mb)(hs1:noStar a=true:=by rfl)(hs2:noStar b=true:=by rfl):JI X pg k (.Tuple els j tpos) (.Call (.Name "zip" p) [a,b] [] pos) (Ph ma mb):=⟨λA =>
 let ⟨_,q1,s1⟩:=ha.h A;let ⟨_,q2,s2⟩:=hb.h A
 ⟨_,⟨Og hg (A.blt _ (by decide +kernel)) (qk q1 (qk q2 uS hs2) hs1).h (by rw[bE hs1,bE hs2];rfl) (by rw[bE hs2];rfl)⟩,fun ρ h H e σ R it h' s r q P=>by
 obtain⟨x,h1,e1,q⟩:=bind_eq.mp q
 obtain⟨y,h2,e2,q⟩:=bind_eq.mp q
 refine s1 ρ h H e σ _ x h1 s r e1 λx' ρ1 H1 g1 z1 r1=>?_
 refine s2 ρ1 h1 H1 e σ _ y h2 z1 (r.gr g1) e2 λy' ρ2 H2 g2 z2 r2=>?_
 split at q
 . rename_i xs ys ex ey;cases q;obtain⟨a1,us,rfl,t1,d1⟩:=rel.seq ex (rel.gr g2 _ _ r1);obtain⟨a2,ws,rfl,t2,d2⟩:=rel.seq ey r2;refine⟨a1,a2,us,ws,rfl,t1,t2,P ρ2 H2 _ (g1.trans g2) z2 λi ρ3 h3 H3 g s3 _=>⟨λv ev=>?_,λei=>?_⟩⟩
   . rw[WT] at ev;cases ez:(xs.zip ys)[i]? with
     | none=>rw[ez] at ev;cases ev
     | some pr =>
      rw[ez] at ev
      cases ev
      obtain⟨zx,zy⟩:=List.getElem?_zip_eq_some.mp ez
      obtain⟨u,f1,f2⟩:=(ao.gr g _ _ d1).get zx
      obtain⟨w,f3,f4⟩:=(ao.gr g _ _ d2).get zy
      refine⟨⟨us,ws,u,w,g.Gj t1,g.Gj t2,f1,f3⟩,?_⟩
      rintro v' H' ⟨p,u',w',hp,rfl,rfl,k1,k2⟩
      have:=k1 us (g.Gj t1)
      rw[f1] at this;cases this
      have:=k2 ws (g.Gj t2)
      rw[f3] at this;cases this
      have gn:Gr ρ3 H3 ρ3 (upd H3 p (.tup [u,w])):=Gr.xE hp
      refine⟨ρ3,gn,s3.tup hp,?_⟩
      exact⟨p,_,rfl,aX,az.mpr ⟨_,_,rfl,rel.gr gn _ _ f2,ao.one (rel.gr gn _ _ f4)⟩⟩
   . refine⟨us,ws,g.Gj t1,g.Gj t2,?_⟩;have:i=min xs.length ys.length:=by simpa using ei
     rw[<- d1.len,<- d2.len];omega
 . cases q⟩⟩
end
structure aT(P:Xy)(w:X0)(K:Wz)(mg:Str->Option WC)(pg:Tb)(f:String)(d:Df)(st:acC)(N:List Str):Prop where
 at_:At K mg (WU f) st
 sc:fU N d.ps (aD st)
 len:N.length=d.ps.length+d.nl
 bd: ∀(kV doc pm:WC)(an:Option W2)(cdv ct:WC)(us:List WC),us.length=d.ps.length->Z8 (Ym (WU f) (WU f) (df st) (bO st) (aD st) .none kV doc pm an cdv ct) ⟨us,[]⟩=pure (d.ps.zip us)
 body: ∀(base:X8)(fa:W2)(cdv:WC)(A:Yk)(outer:List Env)(s:WK)(H:Hp)(E:XK)(k:Nat),BR (lQ wZ P w K mg base N (WU f) (aD st) fa cdv A outer s H E).wq pg k (bO st) d.body
section
variable{P:Xy}{w:X0}{K:Wz}{mg:Str->Option WC}{pg:Tb}
theorem aT.good{st}(g:aT P w K mg pg f d st N):oW P w K mg base pg f d:=⟨st,N,g.at_,g.sc,g.len,g.bd,g.body base⟩
theorem EW{fnT:List (String × Df)}(hf:pg.fns=λf=>(fnT.find? λp=>p.1 == f).map (·.2))(h: ∀ p∈fnT,∃ st N,aT P w K mg pg p.1 p.2 st N) base: ∀ f d,pg.fns f=Wv d->oW P w K mg base pg f d:=λf d e=>by
 rw[hf] at e;dsimp only at e;cases q:fnT.find? λp=>p.1 == f with
 | none=>rw[q] at e;cases e
 | some p =>
  rw[q] at e
  cases e
  obtain⟨st,N,g⟩:=h p (ZY q)
  have:p.1=f:=by simpa using acA q
  rw [<- this]
  exact g.good
theorem MJ{st}(T : Top P w K mg pg)(G : ∀ base f d, pg.fns f = Wv d -> oW P w K mg base pg f d)(hf : pg.fns "law" = Wv d)(hx : d.ps = [x])(g : aT P w K mg pg "law" d st N)(hfa : mg "law" = Wv (.ref fa)) :
    ∃ fd , (∀ s v, acf s fd ⟨[v], []⟩ [(x, v)]) /\ ∀ base , K.In base -> base.Ns Xn mg -> lU P w K mg base wZ (k + 1) fa fd [x] (yz K pg (k + 1) "law") := by
  obtain ⟨f, fd, F, hm⟩ := g.at_;have e := hfa.symm.trans hm;cases e;refine ⟨fd, λs v => .of_eq ?_, λbase _ _ => ?_⟩
  . have := CP.args F g.bd [v] (by rw [hx]; rfl);rw [this, hx]; rfl
  . have key : ∀{args : List PV}{h h' : PH}{v : PV}, run pg (k + 1) "law" args h = .ok v h' -> args.length = d.ps.length ∧
        ((∃ w h2, d.body (run pg k) (args.map some ++ List.replicate d.nl none) h = .ok (.rt w) h2 /\ settle h w h2 = .ok v h') ∨
         (∃ e h2, d.body (run pg k) (args.map Wv ++ WO d.nl Wx) h = .ok (.nx e) h2 /\ settle h .non h2 = .ok v h')) := λ{args h h' v} q => by
      rw [run, hf] at q;simp only at q;split at q
      . rename_i hn;refine ⟨hn, ?_⟩;split at q
        . rename_i w h2 e; exact .inl ⟨w, h2, e, q⟩
        . rename_i e' h2 e; exact .inr ⟨e', h2, e, q⟩
        . nomatch q
        . cases q
        . nomatch q
      . nomatch q
    have S := g.sc;rw [hx] at S;refine CP.Vg F S (λvs H Q E => by rintro ⟨ρ, h, args, v, h', _, r, q, _⟩ ; exact by rw [<- r.len, (key q).1, hx]) ?_;rintro fa cdv A outer s H vs Q E hr ⟨ρ, h, args, v, h', sm, r, q, post⟩;have amb : cX (lQ wZ P w K mg base N (WU "law") (aD st) fa cdv A outer s H E).wq pg k := ⟨hr, rfl, λ_ _ z => z, FP T (G base) k, T.blt, T.con, T.xG⟩
    obtain ⟨t, qt, st'⟩ := (g.body base fa cdv A outer s H E k).h amb;refine ⟨t, qt, ?_⟩;obtain ⟨hn, q⟩ := key q;have he : L2.start N vs = vs.map Wv ++ WO d.nl Wx := by
      unfold L2.start;rw [g.len, <- r.len, hn, aca]
    rw [he];rcases q with ⟨w, h2, e, q⟩ | ⟨e', h2, e, q⟩
    . exact st' ρ h H _ _ _ _ h2 sm (iP r _) e (gU sm q post)
    . exact st' ρ h H _ _ _ _ h2 sm (iP r _) e fun σ' ρ' H' g s' _ => gU sm q post .non ρ' H' g s' (by rw [rel])
end
theorem Oc{K}(hl: ∀ ns:List Int,ns.length<=63->Ok (run pg k "law" [.ref 0] [.kZ (ns.map PV.int)]) λv _=>v= .bl true) H a (ns:List Int) (hn:ns.length<=63) (o:DJ H) (q:hW K H a (ns.map V.int)) :
  yz K pg k "law" [.ref a] H (λv _=>v= .bl true) E:=by
 obtain⟨v,h',e,rfl⟩:=hl ns hn;refine⟨[a],_,[.ref 0],_,h',⟨rfl,λi j b oi oj ei ej mi mj _ _=>?_,λi ob b ei eb=>?_⟩,ao.one (by exact⟨a,rfl,rfl⟩),e,λv' ρ' H' g s r=>by exact r⟩
 . cases i with
   | zero=>simp at ei;subst ei;cases mi
   | succ i=>simp at ei
 . cases i with
   | zero =>
    simp at ei eb
    subst ei eb
    exact⟨_,MH o q,ao.ints ns⟩
   | succ i=>simp at ei
section
variable{P:Xy}{w:X0}{K:Wz}{mg:Str->Option WC}{pg:Tb}
theorem JR{conT:List (Str × PV)}(hc:pg.con=λx=>(conT.find? λp=>decide (p.1=x)).map (·.2))(h: ∀ p∈conT,∃ u v',mg p.1=Wv u/\RelV v' u/\Cw K v'/\ ∀ ρ H,rel K ρ H p.2 v'): ∀ x v,pg.con x=Wv v-> ∃ u v',mg x=Wv u/\RelV v' u/\Cw K v'/\ ∀ ρ H,rel K ρ H v v':=λx v e=>by
 rw[hc] at e;dsimp only at e;cases q:conT.find? λp=>decide (p.1=x) with
 | none=>rw[q] at e;cases e
 | some p =>
  rw[q] at e
  cases e
  have:p.1=x:=by simpa using acA q
  rw[<- this]
  exact h p (ZY q)
theorem JZ{dcT:List (Str × List (Key × PV))}(hc:pg.xG=λx=>(dcT.find? λp=>decide (p.1=x)).map (·.2))(h: ∀ p∈dcT,∃ a kws,mg p.1=Wv (.ref a)/\KD P w K a kws/\ ∀ ρ H,RK K ρ H p.2 kws) :
  ∀ x kvs,pg.xG x=Wv kvs-> ∃ a kws,mg x=Wv (.ref a)/\KD P w K a kws/\ ∀ ρ H,XZ (λ(p:Key × PV) (q:Key × V)=>p.1=q.1/\rel K ρ H p.2 q.2) kvs kws:=λx v e=>by
 rw[hc] at e;dsimp only at e;cases q:dcT.find? λp=>decide (p.1=x) with
 | none=>rw[q] at e;cases e
 | some p =>
  rw[q] at e
  cases e
  have:p.1=x:=by simpa using acA q
  rw[<- this]
  exact h p (ZY q)
inductive CV:PV->WC->Prop where
 | int (i:Int) (t:Tok):CV (.int i) (.int i t)
 | str (x:Str) (t:Tok):CV (.str x) (.str x t)
theorem CV.v(c:CV x u): ∃ v,RelV v u/\ ∀ ρ H,rel K ρ H x v:=by
 cases c with
 | int i t=>exact⟨.int i,⟨t,rfl⟩,λ_ _=>by rw[rel]⟩
 | str z t=>exact⟨.str z,⟨t,rfl⟩,λ_ _=>by rw[rel]⟩
theorem V7.v: ∀{xs us},XZ CV xs us-> ∃ vs,Vals vs us/\ ∀ ρ H,ao K ρ H xs vs
 | _,_,.nil=>⟨[],.nil,λ_ _=>cg.mpr rfl⟩
 | _,_,.cons c t=>by obtain⟨v,a,b⟩:=CV.v c;exact by obtain⟨vs,d,e⟩:=V7.v t;exact⟨v::vs,.cons a d,fun ρ H=>az.mpr ⟨v,vs,rfl,b ρ H,e ρ H⟩⟩
theorem vS(hl:K.lookup a=Wv ⟨.type "tuple",d,.seq us.toArray n,sl⟩)(hz:us.length<=WJ)(h:XZ CV xs us) ρ H:rel K ρ H (.ktup xs) (.ref a):=by
 obtain⟨vs,r,q⟩:=V7.v (K:=K) h;exact⟨a,vs,rfl,⟨_,us.toArray,n,hl,rfl,rfl,by simpa using hz,by simpa using r⟩,q ρ H⟩
theorem qQ{x:Str}{v:PV}{u:WC}(hm:mg x=Wv u)(c:CV v u): ∃ u v',mg x=Wv u/\RelV v' u/\Cw K v'/\ ∀ ρ H,rel K ρ H v v':=by obtain⟨v',a,b⟩:=CV.v (K:=K) c;exact⟨u,v',hm,a,(λp e=>by subst e;cases(show u=W6 p from a);cases c),b⟩
theorem vg{x:Str}{a:W2}{us:List WC}{n:Nat}{sl:Array (Option WC)}{xs:List PV}(hm:mg x=Wv (.ref a))(hl:K.lookup a=Wv ⟨.type "tuple",Wx,.seq us.toArray n,sl⟩)(hz:us.length<=WJ)(h:XZ CV xs us) :
  ∃ u v',mg x=Wv u/\RelV v' u/\Cw K v'/\ ∀ ρ H,rel K ρ H (.ktup xs) v':=⟨_,.ref a,hm,rfl,λp e=>by cases e;exact⟨_,hl,rfl,rfl⟩,vS hl hz h⟩
def DV(K:Wz) x (u:WC):= ∃ v,RelV v u/\ ∀ ρ H,rel K ρ H x v
theorem jy(c:CV x u):DV K x u:=CV.v c
theorem fA(hl:K.lookup a=Wv ⟨.type "tuple",d,.seq us.toArray n,sl⟩)(hz:us.length<=WJ)(h:XZ CV xs us):DV K (.ktup xs) (.ref a):=⟨.ref a,rfl,vS hl hz h⟩
theorem IC(h:XZ (λ(p) (l:Str × Tok × WC)=>p.1= .inr l.1/\DV K p.2 l.2.2) kvs ls): ∃ kws,KV kws (ls.map λp=>((YQ p.1),p.2.2))/\ ∀ ρ H,RK K ρ H kvs kws:=by
 induction h with
 | nil=>exact⟨[],.nil,λ_ _=> .nil⟩
 | @cons p l ps qs a t ih =>
  obtain⟨kws,r,q⟩:=ih
  obtain⟨e,v,r1,r2⟩:=a
  exact⟨(.inr l.1,v)::kws,.cons ⟨rfl,r1⟩ r,fun ρ H=> .cons ⟨e,r2 ρ H⟩ (q ρ H)⟩
theorem yQ{x:Str}{a:W2}{ls:List (Str × Tok × WC)}{kvs:List (Key × PV)}{ep:Nat}(hm:mg x=Wv (.ref a))(hl:K.lookup a=Wv { cls:= .type "dict",data:= .dict (ls.map (SD w)).toArray ep})(ha:(a == X9)=false)(hn:(ls.map λp=>(YQ p.1:Key)).Nodup)
  (h:XZ (λ(p:Key × PV) (l:Str × Tok × WC)=>p.1= .inr l.1/\DV K p.2 l.2.2) kvs ls): ∃ a kws,mg x=Wv (.ref a)/\KD P w K a kws/\ ∀ ρ H,RK K ρ H kvs kws:=by
 obtain⟨kws,r,q⟩:=IC h;exact⟨a,kws,hm,RJ hl ha hn r,q⟩
end
abbrev O1(ak:List WC)(n:Nat)(dd:Option W2)(sl:Array (Option WC)):Obj:={ cls:= .type "tuple",dict:=dd,data:= .seq ak.toArray n,slots:=sl}
theorem zd(h1: -(2 ^ 63)<=k)(h2:k < 2 ^ 63): ¬ (decide (k < -(2 ^ 63))||decide (k ≥ 2 ^ 63))=true:=by
 simp only[ZC,decide_eq_true_eq];omega
theorem y9 l ak n k u dd sl (h1: -(2 ^ 63)<=k) (h2:k < 2 ^ 63) (hs:(ak.toArray.isEmpty||k == 1)=true) :
  aei (Zx.«tuple.__mul__» ⟨[.ref l,.int k u],[]⟩) (λ_ R s=>s.heap.get? l=Wv (O1 ak n dd sl)/\R (.ok (.ret (.ref l))) s) :=
 .of_wp λprog w A R s h=>by
  obtain⟨hl,h⟩:=h;refine Ys (λz=>absurd z (zd h1 h2)) (λ_=>?_)
  wp_walk using X5 hl,ZO hl
  refine Ys (λ_=>?_) (λz=>absurd hs z)
  wp_walk using X5 hl,ZO hl
  exact⟨_,rfl,h⟩
theorem yI l ak n k u dd sl (h1: -(2 ^ 63)<=k) (h2:k<=0) (hs: ¬ (ak.toArray.isEmpty||k == 1)=true) :
  aei (Zx.«tuple.__mul__» ⟨[.ref l,.int k u],[]⟩) (λ_ R s=>s.heap.get? l=Wv (O1 ak n dd sl)/\R (.ok (.ret (.ref s.heap.objs.size))) { s with heap:=s.heap.push { cls:= .type "tuple",data:= .seq #[]}}) :=
 .of_wp λprog w A R s h=>by
  obtain⟨hl,h⟩:=h;have hz:(decide (k<=0)||ak.toArray.isEmpty)=true:=by simp[h2]
  refine Ys (λz=>absurd z (zd h1 (by omega))) (λ_=>?_)
  wp_walk using X5 hl,ZO hl
  refine Ys (λz=>absurd z hs) (λ_=>?_);refine Ys (λ_=>?_) (λz=>absurd hz z);exact Ww (m:=Yn _) (Yi (WI ⟨_,rfl,h⟩) (by size_fits))
theorem yx l ak n (k:Int) u dd sl (h1:0 < k) (h2:(ak.length)*k<=100000) (hk:k<=100000) (hs: ¬ (ak.toArray.isEmpty||k == 1)=true) :
  aei (Zx.«tuple.__mul__» ⟨[.ref l,.int k u],[]⟩) (λ_ R s=>s.heap.get? l=Wv (O1 ak n dd sl)/\R (.ok (.ret (.ref s.heap.objs.size))) { s with heap:=s.heap.push { cls:= .type "tuple",data:= .seq (WO k.toNat ak).flatten.toArray}}) :=
 .of_wp λprog w A R s h=>by
  obtain⟨hp,g,d,tk,os⟩:=s;obtain⟨hl,h⟩:=h;have f1:=AutoSeq1.idx_int;have hz: ¬ (decide (k<=0)||ak.toArray.isEmpty)=true:=by
   intro z;rw[ZC,decide_eq_true_eq] at z;rcases z with z | z
   . omega
   . exact hs (by rw[z];rfl)
  have hc1: ¬ ((ak.toArray.size)*k > (2 ^ 63 - 1) / 8):=by rw[WZ];omega
  have hc2: ¬ (abq ((ak.toArray.size)*k)=true):=by
   unfold abq;rw[WZ,decide_eq_true_eq,show((WJ))=16777216 from by decide];omega
  have e0:aew (λx1 x2=>x1++x2) #[] (WO k.toNat ak.toArray)=(WO k.toNat ak).flatten.toArray:=by
   have:=foldl_rep ak k.toNat [];rw[XF] at this;exact this
  wp_walk using X5 hl,ZO hl
  refine Ys (λz=>absurd z (zd (by omega) (by omega))) (λ_=>?_)
  wp_walk using X5 hl,ZO hl
  refine Ys (λz=>absurd z hs) (λ_=>?_);refine Ys (λz=>absurd z hz) (λ_=>?_);refine Ys (λhab=>absurd hab hc1) (λ_=>?_);refine Ys (λhab=>absurd hab hc2) (λ_=>?_);refine Ww (m:=Yn _) (Yi (WI ⟨_,rfl,?_⟩) ?_)
  . rw[e0];exact h
  . rw[e0];show(WO k.toNat ak).flatten.toArray.size<=WJ;rw[WZ,len_rep,adK];refine Xb (show ak.length*k.toNat<=100000 from ?_) (by decide);have e1:((ak.length*k.toNat:Nat))=(ak.length)*k:=by rw[aep,ade (by omega)]
    omega
def Nw(K:Wz):R2:=λx y H Q=> ∃ a k xs,x= .ref a/\y= .int k/\fw K H a xs/\(xs.length)*k<=100000/\ -100000<=k/\k<=100000/\(xs=[]\/k=1->Q (.ref a) H)/\(¬ (xs=[]\/k=1)-> ∀ p,H p=Wx->Q (.ref p) (upd H p (.tup (WO k.toNat xs).flatten)))
theorem Ef:cZ X (Yg .Mult) (Nw X.K):=by
 intro pins s σ H x y v u Q I rx ry h;obtain⟨a,k,xs,rfl,rfl,ha,hl,k1,k2,q1,q2⟩:=h;cases(show v=W6 a from rx);obtain⟨t,rfl⟩:=ry;obtain⟨ak,r1,p1,_⟩:=I.tuple ha;obtain⟨⟨cls,dd,data,sl⟩,ho,hc,n,hd⟩:=id p1;simp only at hc hd;subst hc hd;have hlen:=r1.length;refine abw (T:= "tuple") (U:= "int") (by decide) ⟨_,ho,rfl⟩ (λs'=>acj s' k t) nu PySem.F.fills_int_mul acG uw PySem.F.slot_int_index.lookup
  (YV acG (acj s k t) PySem.F.entry_int_rmul (PySem.F.args_int_rmul_2 _ _) (qE k t a ak.toArray n dd sl) ⟨ho,rfl,⟨_,ho,rfl⟩,?_⟩)
 have hx:=(r1.oP).symm;by_cases hs:xs=[]\/k=1
 . have hb:(ak.toArray.isEmpty||k == 1)=true:=by
    rcases hs with z | z
    . rw[hx.mp z];rfl
    . rw[z];simp
   exact YV YZ ⟨_,ho,rfl⟩ aar (aae _ _) (y9 a ak n k t dd sl (by omega) (by omega) hb) ⟨ho,⟨.ref a,H,I,rfl,q1 hs⟩⟩
 . have hb: ¬ (ak.toArray.isEmpty||k == 1)=true:=λz=>hs (by
    rw[ZC] at z;rcases z with z | z
    . exact .inl (hx.mpr (by simpa using z))
    . exact .inr (by simpa using z))
   by_cases hk:0 < k
   . refine YV YZ ⟨_,ho,rfl⟩ aar (aae _ _) (yx a ak n k t dd sl hk (by rw[<- hlen];exact hl) k2 hb) ⟨ho,?_⟩;refine⟨.ref s.heap.objs.size,_,I.laid (t':=s.toks) (o:= .tup (WO k.toNat xs).flatten) (λb ob q=>WB _ q) (WG _) ?_,rfl,q2 hs _ (I.bA.fresh (WG _))⟩;refine⟨?_,_,r1.rep k.toNat,rG.new _ _⟩;rw[len_rep,adK];refine Xb (show xs.length*k.toNat<=100000 from ?_) (by decide);have e1:((xs.length*k.toNat:Nat))=(xs.length)*k:=by rw[aep,ade (by omega)]
     omega
   . refine YV YZ ⟨_,ho,rfl⟩ aar (aae _ _) (yI a ak n k t dd sl (by omega) (by omega) hb) ⟨ho,?_⟩;refine⟨.ref s.heap.objs.size,_,I.laid (t':=s.toks) (o:= .tup (WO k.toNat xs).flatten) (λb ob q=>WB _ q) (WG _) ?_,rfl,q2 hs _ (I.bA.fresh (WG _))⟩;have:k.toNat=0:=by omega
     rw[this];exact⟨Xv _,[],.nil,rG.new _ _⟩
section
variable{X:Cx}{pg:Tb}{k:Nat}
theorem ao.rep{K}(r:ao K ρ H xs vs): ∀ n,ao K ρ H (WO n xs).flatten (WO n vs).flatten
 | 0=>cg.mpr rfl
 | n+1=>by exact r.app (r.rep n)
def dF:PV->PV->PH->RV PV:=λx y h=>match x,y with
 | .int i,.int j=>if (-(2 ^ 64) < i/\i < 2 ^ 64)\/(-(2 ^ 64) < j/\j < 2 ^ 64) then .ok (.int (i*j)) h else .no
 | .tup xs,.int k=>if (xs.length)*k<=100000/\ -100000<=k/\k<=100000 then .ok (.tup (WO k.toNat xs).flatten) h else .no
 | .ref n,.int k=>(match h[n]? with
  | some (.lst xs)=>if (-(2 ^ 63)<=k/\k < 2 ^ 63)/\xs.length*k.toNat<=WJ then .ok (.ref h.length) (h++[.lst (WO k.toNat xs).flatten]) else .no
  | _=> .no)
 | _,_=> .no
theorem Pr:cX X pg k-> ∃ r,cZ X (Yg .Mult) r/\oy X.K r dF:=λ_=>⟨_,NP.or (Ef.or M7),fun ρ h H x y x' y' Q v h' s rx ry q P=>by
 unfold dF at q;split at q
 . split at q
   . rename_i hc;cases q;exact .inl ⟨_,_,rx,ry,hc,P _ ρ H (.refl _ _) s (by rw[rel])⟩
   . nomatch q
 . rename_i xs k;split at q
   . rename_i hc;cases q;have rx':=rx;obtain⟨a,us,rfl,e2,e3⟩:=rx;refine .inr (.inl ⟨a,k,us,rfl,ry,.of e2,by rw[<- e3.len];exact hc.1,hc.2.1,hc.2.2,λz=>?_,λz p hp=>oZ s (e3.rep _) P p hp⟩);have:(WO k.toNat xs).flatten=xs:=by
      rcases z with z | z
      . subst z;have:=aaZ e3.len;subst this;simp
      . rw[z];simp[WO]
     rw[this] at P;exact P _ ρ H (.refl _ _) s rx'
   . nomatch q
 . split at q
   . rename_i xs en;split at q
     . rename_i hc;cases q;obtain⟨a,us,rfl,_,e1,e2⟩:=s.lst en rx;exact .inr (.inr ⟨a,_,us,rfl,ry,e1,hc.1.1,hc.1.2,by rw[<- e2.len];exact hc.2,λp hp=>dj s (e2.rep _) P p hp⟩)
     . nomatch q
   . nomatch q
 . nomatch q⟩
end
section
variable{prog:Xy}{w:X0}{A:Yk}{E:WC->WK->Prop}{s:WK}
theorem vB{t:W2}{us:List WC}{R:List WC->WK->Prop}(ht:s.heap.IsTuple t us.toArray)(fits:us.length<=WJ)
  (q:R us { s with heap:=(s.heap.push (Zw "list" #[] 0)).update s.heap.objs.size (X4 (· ++us.toArray))}):W3 (W8 prog w) A (collect (.ref t)) R E s:=by
 obtain⟨ob,e1,e2,m,e3⟩:=id ht;have e1':=WB (Zw "list" #[] 0) e1;have own:(s.heap.push (Zw "list" #[] 0)).get? s.heap.objs.size=Wv (Zw "list" #[] 0):=WS _ rfl;have sum:(#[])++us.toArray=us.toArray:=by simp
 refine Ww (wpAny_runValue (ZD entry_proto_collect' (show W3 _ _ (newList [] >>= λl=>again (.builtin "list.__iadd__" ⟨[l,.ref t],[]⟩)) _ _ s from ?_)));refine Ww (aaS (WI ⟨Code.quiet_builtin _ (by decide +kernel),ZD entry_list_iadd' (show W3 _ _ (ZL _ (.ref t) _) _ _ { s with heap:=s.heap.push (Zw "list" #[] 0)} from ?_)⟩));refine Ww (Zt (T:= "tuple") ⟨ob,e1',e2⟩ (Qe (by simp) (Ww (adT e1' e3 (Ww (adT own rfl ?_))))));refine OR (by simp) (Ww (abQ own rfl (WI ?_) (Xv _) (by rw[sum,WZ];omega)));refine Ww (ZO (get?_update_seq own _) ?_);show W3 _ _ (pure ((#[])++us.toArray).toList) R E _;rw[sum];exact WI q
theorem oN{t:W2}{us:List WC}{ss:List Str}{R:WC->WK->Prop}(ht:s.heap.IsTuple t us.toArray)(hS:aba us ss)(n64:us.length < 64)
  (q: ∀(out:Array WC)(ss':List Str),aba out.toList ss'->ss'.Perm ss->abD ss'=true->R (.ref (s.heap.objs.size+1)) { s with heap:=ad8 s.heap us out}):W3 (W8 prog w) A (call (.builtin "sorted") [.ref t]) R E s:=by
 refine ZX aeh adN adO (adP (.ref t)) ?_;refine Ww (m:=checkCount "sorted" 1 1 [W6 t].length) (WI (Ww (vB ht (L2.mW n64) (Ww (aaS ?_ (L2.mW n64))))));show W3 _ _ _ _ _ { s with heap:=lV s.heap us};rw[fM];exact Ww (XQ (l6 (jN s.heap us) hS n64 λout ss' a1 a2 a3=>WI ⟨_,rfl,q out ss' a1 a2 a3⟩))
end
section
variable{X:Cx}{pg:Tb}{k:Nat}
def HH(K:Wz):List V->Hp->VK->Prop:=λxs H Q=> ∃ p ss,xs=[.ref p]/\fw K H p (ss.map V.str)/\ss.length < 64/\ ∀ l ss',H l=Wx->ss'.Perm ss->abD ss'=true->Q (.ref l) (upd H l (.lst (ss'.map V.str)))
theorem wy:aS X (.builtin "sorted") (HH X.K):=by
 rintro pins s σ H xs us Q I r ⟨p,ss,e,hS,h64,q⟩;subst e;obtain⟨u,rfl,ru⟩:=vals1 r;cases(show u=W6 p from ru);obtain⟨ak,hv,hl,hz⟩:=I.tuple hS;have sa:=gI hv;refine oN hl sa (by rw[sa.length];exact h64) λout ss' a1 a2 a3=>?_;obtain⟨e,he⟩:=adQ s.heap ak out;have hlen:(ss'.map V.str).length<=WJ:=by rw[Wy,a2.length_eq];exact YY (WQ h64 (by decide))
 obtain⟨hn,I'⟩:=I.mX (a:=s.heap.objs.size+1) (o:= .lst (ss'.map V.str)) (t':=s.toks) (λb o e=>adk e) (YS (abB _)) ⟨hlen,out.toList,e,jY a1,by simpa [Zw] using he⟩;exact⟨.ref _,_,I',rfl,q _ ss' hn a2 a3⟩
def eZ:List PV->PH->RV PV:=λxs h=>match xs with
 | [.tup ys]=>(match fu ys with
  | some ss=>if ss.length < 64 then .ok (.ref h.length) (h++[.lst ((d9 ss).map PV.str)]) else .no
  | none=> .no)
 | _=>mF xs h
theorem Bg:cX X pg k-> ∃ r,aS X (.builtin "sorted") r/\AY X.K r eZ:=λA=>⟨_,wy.or (wz A.calm),fun ρ h H xs us Q v h' s r q P=>by
 unfold eZ at q;split at q
 . split at q
   . rename_i ss es;split at q
     . rename_i hl;cases q;obtain⟨u,rfl,r1⟩:=aP r;obtain⟨a,vs,rfl,e1,e2⟩:=r1;rw[fc es,b6] at e2;subst e2;refine .inl ⟨a,ss,rfl,.of e1,hl,λl ss' hp pm so=>?_⟩;rw[qC pm so];exact dj s (b6.mpr rfl) P l hp
     . nomatch q
   . nomatch q
 . exact .inr (wA A ρ h H _ us Q v h' s r q P)⟩
end
def fin h (r:RV Fl):=match r with
 | .ok (.rt v) h'=>settle h v h'
 | .ok (.nx _) h'=>settle h .non h'
 | .ok _ _=> .no
 | .ex c us h'=> .ex c us h'
 | .no=> .no
theorem run_eq(hf:pg.fns f=Wv d)(hn:vs.length=d.ps.length):run pg (k+1) f vs h=fin h (d.body (run pg k) (vs.map Wv++WO d.nl Wx) h):=by
 rw[run,hf];simp only[if_pos hn];rfl
theorem dc:(RV.ok a h).bind f=f a h:=(rfl)
theorem jG:fin h (.ok (.rt v) h')=settle h v h':=(rfl)
theorem Km[Decidable c]:fin h (if c then a else b)=if c then fin h a else fin h b:=by split<;>rfl
theorem oA:settle h v h= .ok v h:=by unfold settle;split<;>simp
theorem bU(hv:v.flat=true):settle h v (h++g)= .ok v h:=by unfold settle;rw[hv,kI];simp
theorem bh(hv:v.flat=false):settle h v h'= .ok v h':=by unfold settle;rw[hv];rfl
theorem ky(hv:v.flat=true)(e:h[i]?=Wv o)(m:o.dz=o'.dz)(hu:o'.hX h.length=true):settle h v (h.set i o'++g)= .ok v (h.set i o'):=by
 unfold settle;have:bY h.length h (h.set i o'++g)=true:=by
  have h1:=pD hu h (h++g) i o (kI _ h g) e m
  rwa[acZ _ _ (WA.mp e).1] at h1
 rw[hv,this];simp[List.take_append_of_le_length]
theorem ox{h:PH}{v:PV}{i:Nat}{o o':PO}:settle h v (h.set i o')= .ok v (h.set i o'):=by
 unfold settle;split
 . rw[<- Xa (as:=h) (i:=i) (a:=o'),acb]
 . rfl
theorem cQ:WU a=WU b↔a=b:=by
 refine⟨λe=>?_,λe=>by rw[e]⟩;rw[acr,acr] at e;have e1:a.toList.map adA=b.toList.map adA:=by
  have:=congrArg (λs:Str=>s.cps.toList) e;simpa using this
 have inj: ∀{l m:List Char},l.map adA=m.map adA->l=m:=by
  intro l
  induction l with
  | nil=>intro m h;cases m with | nil=>rfl | cons=>cases h
  | cons x r ih =>
   intro m h
   cases m with
   | nil=>cases h
   | cons y t =>
    simp only[aeo,WH] at h
    have:=Char.toNat_inj.mp h.1
    rw[this,ih h.2]
 exact String.toList_inj.mp (inj e1)
section
variable{c:CF}{e e1:aQ}{h h1:PH}{a b d:ME}{t u:MT}{r:MA}{x y v:PV}{f g:PV->PV->PH->RV PV}{s s':MS}{i n:Nat}
def Sj(f:PV->PV->PH->RV PV)(b:ME) c e x h1:=(b c e h1).bind λy h2=>f x y h2
theorem Lg:aj f a b c e h=(a c e h).bind (Sj f b c e):=rfl
theorem Eg:Sj f b c e x h1=(b c e h1).bind (f x):=rfl
theorem RU{f}:xR f a c e h=(a c e h).bind f:=rfl
noncomputable def Om(o:Option (Option PV))(h:PH):RV PV:=match o with
 | some (Wv v)=> .ok v h
 | _=> .no
theorem De:aa i c e h=Om (e[i]?) h:=rfl
theorem AO:Om (Wv (Wv v)) h= .ok v h:=rfl
theorem Vo:eC v c e h= .ok v h:=rfl
theorem Px:vq (.bl p) h= .ok p h:=rfl
noncomputable def CZ(b:ME) c e x h1:=if x=true then b c e h1 else .ok (.bl false) h1
theorem Od:BF a b c e h=((a c e h).bind vq).bind (CZ b c e):=rfl
theorem Il:CZ b c e true h=b c e h:=rfl
theorem Hr:CZ b c e false h= .ok (.bl false) h:=rfl
theorem Hl[Decidable p]:CZ b c e (decide p) h=if p then b c e h else .ok (.bl false) h:=by unfold CZ;by_cases q:p<;>simp[q]
noncomputable def RX(b:ME) c e x h1:=if x=true then .ok (.bl true) h1 else b c e h1
theorem QJ:Rt a b c e h=((a c e h).bind vq).bind (RX b c e):=rfl
theorem O6:RX b c e true h= .ok (.bl true) h:=rfl
theorem PZ:RX b c e false h=b c e h:=rfl
theorem NF[Decidable p]:RX b c e (decide p) h=if p then .ok (.bl true) h else b c e h:=by unfold RX;by_cases q:p<;>simp[q]
noncomputable def Sq(x:Bool)(h1:PH):RV PV:= .ok (.bl (!x)) h1
theorem NC:Ka a c e h=((a c e h).bind vq).bind Sq:=rfl
theorem GJ:Sq p h= .ok (.bl (!p)) h:=rfl
noncomputable def Mw(a b:ME) c e x h1:=if x=true then a c e h1 else b c e h1
theorem Qq:vt t a b c e h=(t c e h).bind (Mw a b c e):=rfl
theorem NT:Mw a b c e true h=a c e h:=rfl
theorem LV:Mw a b c e false h=b c e h:=rfl
theorem NZ[Decidable p]:Mw a b c e (decide p) h=if p then a c e h else b c e h:=by unfold Mw;by_cases q:p<;>simp[q]
theorem MM[Decidable p]:Mw a b c e (!decide p) h=if p then b c e h else a c e h:=by unfold Mw;by_cases q:p<;>simp[q]
theorem NA:aF a c e h=(a c e h).bind vq:=rfl
noncomputable def pU(u:MT) c e x h1:=if x=true then u c e h1 else .ok false h1
theorem GF:lT t u c e h=(t c e h).bind (pU u c e):=rfl
theorem Ec:pU u c e true h=u c e h:=rfl
theorem F5:pU u c e false h= .ok false h:=rfl
theorem ET[Decidable p]:pU u c e (decide p) h=if p then u c e h else .ok false h:=by unfold pU;by_cases q:p<;>simp[q]
theorem EF[Decidable p]:pU u c e (!decide p) h=if p then .ok false h else u c e h:=by unfold pU;by_cases q:p<;>simp[q]
noncomputable def yN(u:MT) c e x h1:=if x=true then .ok true h1 else u c e h1
theorem PD:HV t u c e h=(t c e h).bind (yN u c e):=rfl
theorem GG:yN u c e true h= .ok true h:=rfl
theorem Ig:yN u c e false h=u c e h:=rfl
theorem Ik[Decidable p]:yN u c e (decide p) h=if p then .ok true h else u c e h:=by unfold yN;by_cases q:p<;>simp[q]
theorem GY[Decidable p]:yN u c e (!decide p) h=if p then u c e h else .ok true h:=by unfold yN;by_cases q:p<;>simp[q]
noncomputable def Lj(x:Bool)(h1:PH):RV Bool:= .ok (!x) h1
theorem Ip:nF t c e h=(t c e h).bind Lj:=rfl
theorem Dt:Lj p h= .ok (!p) h:=rfl
theorem Jg:aN c e h= .ok true h:=rfl
theorem Kn:ah c e h= .ok [] h:=rfl
noncomputable def LF(x:PV)(xs:List PV)(h2:PH):RV (List PV):= .ok (x::xs) h2
def NR(r:MA) c e x h1:=(r c e h1).bind (LF x)
theorem Ex:ab a r c e h=(a c e h).bind (NR r c e):=rfl
theorem Cf:NR r c e x h=(r c e h).bind (LF x):=rfl
theorem CC:LF x xs h= .ok (x::xs) h:=rfl
theorem zI{r:RV α}(hn:n<=16777216):mW n r=r:=by exact if_pos hn
def Ry(xs:List PV)(h:PH):RV PV:=mW xs.length (.ok (.tup xs) h)
theorem OU:aq r c e h=(r c e h).bind Ry:=rfl
theorem GX:Ry xs h=mW xs.length (.ok (.tup xs) h):=(rfl)
def SH(xs:List PV)(h:PH):RV PV:=mW xs.length (.ok (.ref h.length) (h++[.lst xs]))
theorem N7:bD r c e h=(r c e h).bind SH:=rfl
theorem HN:SH xs h=mW xs.length (.ok (.ref h.length) (h++[.lst xs])):=(rfl)
theorem IB{f}:ag f r c e h=(r c e h).bind (c f):=rfl
theorem Vd{f}:eB f r c e h=(r c e h).bind f:=rfl
def TV(f:PV->List PV->PH->RV PV)(ty:PV->PH->Bool)(r:MA) c e x h1:=if ty x h1=true then(r c e h1).bind (f x) else .no
theorem Uz{f}:eM f ty a r c e h=(a c e h).bind (TV f ty r c e):=rfl
def B6(g:PV->PV->PH->RV PV)(d:ME) c e y k h3:=if k=true then(d c e h3).bind (g y) else .ok (.bl false) h3
def OL(f g:PV->PV->PH->RV PV) d c e x y h2:=((f x y h2).bind vq).bind (B6 g d c e y)
def SJ(f g:PV->PV->PH->RV PV)(b d:ME) c e x h1:=(b c e h1).bind (OL f g d c e x)
theorem TH:t5 f g a b d c e h=(a c e h).bind (SJ f g b d c e):=rfl
theorem NV:SJ f g b d c e x h=(b c e h).bind (OL f g d c e x):=rfl
theorem NY:OL f g d c e x y h=((f x y h).bind vq).bind (B6 g d c e y):=rfl
theorem Hz:B6 g d c e y true h=(d c e h).bind (g y):=rfl
theorem IS:B6 g d c e y false h= .ok (.bl false) h:=rfl
theorem Ii[Decidable p]:B6 g d c e y (decide p) h=if p then(d c e h).bind (g y) else .ok (.bl false) h:=by unfold B6;by_cases q:p<;>simp[q]
noncomputable def BN(s:MS) c (f:Fl) (h1:PH):=match f with
 | .nx e1=>s c e1 h1
 | f=> .ok f h1
theorem Dj:ae s s' c e h=(s c e h).bind (BN s' c):=rfl
theorem An:BN s c (.nx e) h=s c e h:=(rfl)
theorem Hn:BN s c (.rt v) h= .ok (.rt v) h:=rfl
theorem HR:BN s c (.bk e) h= .ok (.bk e) h:=rfl
theorem Jx:BN s c (.ct e) h= .ok (.ct e) h:=rfl
theorem Rp:cE c e h= .ok (.nx e) h:=rfl
noncomputable def V6(e:aQ)(_:PV)(h1:PH):RV Fl:= .ok (.nx e) h1
theorem G8:bS a c e h=(a c e h).bind (V6 e):=rfl
theorem FJ:V6 e x h= .ok (.nx e) h:=rfl
noncomputable def Th(v:PV)(h1:PH):RV Fl:= .ok (.rt v) h1
theorem OV:ay a c e h=(a c e h).bind Th:=rfl
theorem Jj:Th v h= .ok (.rt v) h:=rfl
noncomputable def yJ(s s':MS) c e x h1:=if x=true then s c e h1 else s' c e h1
theorem NN:bW t s s' c e h=(t c e h).bind (yJ s s' c e):=rfl
theorem Kl:yJ s s' c e true h=s c e h:=rfl
theorem IW:yJ s s' c e false h=s' c e h:=rfl
theorem HZ[Decidable p]:yJ s s' c e (decide p) h=if p then s c e h else s' c e h:=by unfold yJ;by_cases q:p<;>simp[q]
theorem HY[Decidable p]:yJ s s' c e (!decide p) h=if p then s' c e h else s c e h:=by unfold yJ;by_cases q:p<;>simp[q]
noncomputable def Oq(e1:aQ)(h2:PH):RV Fl:= .ok (.nx e1) h2
def Pd(g:MG) e v h1:=(g v e h1).bind Oq
theorem MZ{g}:ai a g c e h=(a c e h).bind (Pd g e):=rfl
theorem JQ:Pd (gN i) e v h= .ok (.nx (e.set i (Wv v))) h:=rfl
theorem Kg:Pd (gT n gs) e v h=(gT n gs v e h).bind Oq:=rfl
theorem Py:Oq e h= .ok (.nx e) h:=rfl
theorem KP:gN i v e h= .ok (e.set i (Wv v)) h:=rfl
theorem Rf(hn:xs.length=n):gT n gs (.tup xs) e h=gs xs e h:=if_pos hn
theorem LI:gT 2 gs (.tup [x1,x2]) e h=gs [x1,x2] e h:=rfl
theorem Nt:gT 3 gs (.tup [x1,x2,x3]) e h=gs [x1,x2,x3] e h:=rfl
theorem Oh:gT 4 gs (.tup [x1,x2,x3,x4]) e h=gs [x1,x2,x3,x4] e h:=rfl
theorem L9:gT 5 gs (.tup [x1,x2,x3,x4,x5]) e h=gs [x1,x2,x3,x4,x5] e h:=rfl
theorem Nx:cw [] e h= .ok e h:=rfl
theorem M5{g r t}:aA g r (v::t) e h=(g v e h).bind (r t):=rfl
def DH(f:PV->PV->PV->PH->RV Unit)(e:aQ)(v x y:PV)(h3:PH):RV Fl:=(f x y v h3).bind λ_ h4=> .ok (.nx e) h4
def FY(f:PV->PV->PV->PH->RV Unit)(i:ME) c e v x h2:=(i c e h2).bind (DH f e v x)
def Lh(f:PV->PV->PV->PH->RV Unit)(o i:ME) c e v h1:=(o c e h1).bind (FY f i c e v)
theorem Ni{f i}:fQ f o i a c e h=(a c e h).bind (Lh f o i c e):=rfl
theorem Kd{f i}:Lh f o i c e v h=(o c e h).bind (FY f i c e v):=rfl
theorem Hx{f i}:FY f i c e v x h=(i c e h).bind (DH f e v x):=rfl
noncomputable def V2(e:aQ)(_:Unit)(h:PH):RV Fl:= .ok (.nx e) h
theorem IM{f}:DH f e v x y h=(f x y v h).bind (V2 e):=rfl
theorem PM{u}:V2 e u h= .ok (.nx e) h:=rfl
def br(g:MG)(s:MS) c x e h:=(g x e h).bind (s c)
def fork g s c e it h1:=bK it (br g s c) it.items e h1
theorem uZ{i g}:ja i g s c e h=(i c e h).bind (fork g s c e):=(rfl)
theorem oR{g}:fork g s c e it h=bK it (br g s c) it.items e h:=(rfl)
theorem D6{g}:br g s c x e h=(g x e h).bind (s c):=(rfl)
theorem EC:jh a c e h=(a c e h).bind oE:=(rfl)
theorem Mp:oE (.tup xs) h= .ok ⟨Wx,xs⟩ h:=(rfl)
theorem Pp:oE (.ktup xs) h= .ok ⟨Wx,xs⟩ h:=(rfl)
def T7(n:Nat)(h:PH)(o:Option PO):RV uj:=match o with
 | some (.lst xs)=> .ok ⟨Wv n,xs⟩ h
 | some (.kZ xs)=> .ok ⟨Wv n,xs⟩ h
 | _=> .no
theorem pe:oE (.ref n) h=T7 n h (h[n]?):=by
 have e:oE (.ref n) h=(match cH h n with | some xs=> .ok ⟨Wv n,xs⟩ h | none=> .no):=rfl;rw[e];unfold cH T7;generalize h[n]?=oo;cases oo with
 | none=>rfl
 | some o=>cases o<;>rfl
theorem tY:T7 n h (Wv (.lst xs))= .ok ⟨Wv n,xs⟩ h:=(rfl)
theorem Mg:T7 n h (Wv (.kZ xs))= .ok ⟨Wv n,xs⟩ h:=(rfl)
def Vt(vs:List PV)(h1:PH):RV uj:=match vs with
 | [.int j]=>if -(2 ^ 62)<=j∧j < 2 ^ 62 then .ok ⟨Wx,aH 0 j.toNat⟩ h1 else .no
 | _=> .no
theorem yn : cO r c e h = (r c e h).bind Vt := by
  unfold cO;generalize r c e h = z;cases z with
  | ok a b =>
    rw [dm, dm]
    unfold Vt
    split
    . rfl
    . first
      | rfl
      | (· rfl)
  | ex a b d => rfl
  | no => rfl
theorem uX(hj: -4611686018427387904<=j∧j < 4611686018427387904):Vt [.int j] h= .ok ⟨Wx,aH 0 j.toNat⟩ h:=by
 exact if_pos (by omega)
noncomputable def Ud(x y:PV)(h2:PH):RV uj:=match x.seq?,y.seq? with
 | some xs,Wv ys=> .ok ⟨Wx,(xs.zip ys).map λp=> .tup [p.1,p.2]⟩ h2
 | _,_=> .no
def Vv(b:ME) c e x h1:=(b c e h1).bind (Ud x)
theorem OA:Ph a b c e h=(a c e h).bind (Vv b c e):=(rfl)
theorem Gu:Vv b c e x h=(b c e h).bind (Ud x):=(rfl)
theorem F2:Ud (.ktup xs) (.tup ys) h= .ok ⟨Wx,(xs.zip ys).map λp=> .tup [p.1,p.2]⟩ h:=(rfl)
theorem Dl:Ud (.tup xs) (.tup ys) h= .ok ⟨Wx,(xs.zip ys).map λp=> .tup [p.1,p.2]⟩ h:=(rfl)
def TX it (step:PV->aQ->PH->RV Fl) (xs:List PV) (f:Fl) (h1:PH):=match f with
 | .nx e1=>bK it step xs e1 h1
 | .ct e1=>bK it step xs e1 h1
 | .bk e1=> .ok (.nx e1) h1
 | .rt v=> .ok (.rt v) h1
theorem gJ{step}:bK ⟨Wx,xs⟩ step [] e h= .ok (.nx e) h:=(rfl)
theorem eK{step}:bK ⟨Wx,xs⟩ step (y::ys) e h=(step y e h).bind (TX ⟨Wx,xs⟩ step ys):=(rfl)
theorem oO{step}(hf:it.kC h=true):bK it step [] e h= .ok (.nx e) h:=by rw[bK,if_pos hf]
theorem k7{step}(hf:it.kC h=true):bK it step (y::ys) e h=(step y e h).bind (TX it step ys):=by rw[bK,if_pos hf];rfl
theorem cb{step}:TX it step xs (.nx e) h=bK it step xs e h:=(rfl)
theorem AG{step}:TX it step xs (.rt v) h= .ok (.rt v) h:=(rfl)
noncomputable def N8(ys:List PV)(h2:PH):RV PV:= .ok (.ref h2.length) (h2++[.lst ys])
def Se k g t a c e it h1:=(gL it (aO k g t a c e) it.items [] h1).bind N8
theorem SX{i g}:je k i g t a c e h=(i c e h).bind (Se k g t a c e):=(rfl)
theorem PR{g}:Se k g t a c e it h=(gL it (aO k g t a c e) it.items [] h).bind N8:=(rfl)
theorem LZ:N8 ys h= .ok (.ref h.length) (h++[.lst ys]):=(rfl)
noncomputable def CU(y:PV)(h4:PH):RV (Option PV):= .ok (Wv y) h4
def vy(a:ME) c e2 b h3:=if b=true then(a c e2 h3).bind CU else .ok Wx h3
def QB(t:MT) a c e2 h2:=(t c e2 h2).bind (vy a c e2)
theorem Qz{g}:aO k g t a c e x h=(g x (e++WO k Wx) h).bind (QB t a c):=(rfl)
theorem OM:QB t a c e h=(t c e h).bind (vy a c e):=(rfl)
theorem Ke:vy a c e true h=(a c e h).bind CU:=(rfl)
theorem Jw:vy a c e false h= .ok Wx h:=(rfl)
theorem JY[Decidable p]:vy a c e (decide p) h=if p then(a c e h).bind CU else .ok Wx h:=by unfold vy;by_cases q:p<;>simp[q]
theorem Gw[Decidable p]:vy a c e (!decide p) h=if p then .ok Wx h else(a c e h).bind CU:=by unfold vy;by_cases q:p<;>simp[q]
theorem Pe:CU y h= .ok (Wv y) h:=(rfl)
theorem dW{α :Type}{it:uj}(hf:it.kC h=true){step:PV->PH->RV (Option PV)}{f: α ->Option PV}{g: α ->PV}: ∀(l:List α)(ys:List PV),(∀ x∈l,step (g x) h= .ok (f x) h)->l.length+ys.length<=16777216->gL it step (l.map g) ys h= .ok (ys++l.filterMap f) h
 | [],ys,_,_=>by rw[Xc,gL,if_pos hf];simp
 | x::xs,ys,hs,hl=>by
  have hl':ys.length < WJ:=by rw[WE] at hl;show ys.length < 16777216;omega
  rw[WH,gL,if_pos ⟨hf,hl'⟩,hs x WW];cases q:f x with
  | none=>exact(dW hf xs ys (λy m=>hs y (WY _ m)) (by rw[WE] at hl;omega)).trans (by rw[Zg q])
  | some y=>exact(dW hf xs (ys++[y]) (λz m=>hs z (WY _ m)) (by rw[WE] at hl;simp;omega)).trans (by rw[Zh q];simp)
end
section
variable{h:PH}{i j:Int}{a b:Str}{x y z w u v:PV}{r xs ys:List PV}{p q:Bool}{n m:Nat}
theorem GZ:rD (.int i) (.int j) h= .ok (.int (i - j)) h:=(rfl)
theorem Kh:aU (.int i) (.int j) h= .ok (.int (i+j)) h:=(rfl)
theorem lA(hl:xs.length+ys.length<=16777216):aU (.tup xs) (.tup ys) h= .ok (.tup (xs++ys)) h:=zI hl
theorem j7(e1:h[n]?=Wv (.lst xs))(e2:h[m]?=Wv (.lst ys))(hl:xs.length+ys.length<=16777216):aU (.ref n) (.ref m) h= .ok (.ref h.length) (h++[.lst (xs++ys)]):=by
 unfold aU;simp only[e1,e2];exact zI (by simpa using hl)
theorem HK(hj:0 < j):m8 (.int i) (.int j) h= .ok (.int (i % j)) h:=by unfold m8 p2;simp[hj,Gp,dm]
theorem FF(hj:0 < j/\j < 1073741824):pL (.int i) (.int j) h= .ok (.int (i / j)) h:=by unfold pL p2;simp[hj,Gp,dm]
theorem HA(hj:0<=j/\j<=1000000/\i.natAbs < 18446744073709551616):Hi (.int i) (.int j) h= .ok (.int (i ^ j.toNat)) h:=by
 unfold Hi p2;simp only;rw[if_pos (by exact⟨hj.1,hj.2.1,by have:=hj.2.2;omega⟩)];rfl
theorem HU(hi: -18446744073709551616 < i/\i < 18446744073709551616):dF (.int i) (.int j) h= .ok (.int (i*j)) h:=if_pos (.inl (by omega))
theorem tU(hj: -18446744073709551616 < j/\j < 18446744073709551616):dF (.int i) (.int j) h= .ok (.int (i*j)) h:=if_pos (.inr (by omega))
theorem N1:BM (.int i) (.int j) h= .ok (.bl (decide (i < j))) h:=(rfl)
theorem OF:Uh (.int i) (.int j) h= .ok (.bl (decide (i<=j))) h:=(rfl)
theorem OQ:Qk (.int i) (.int j) h= .ok (.bl (decide (j < i))) h:=(rfl)
theorem PX:UH (.int i) (.int j) h= .ok (.bl (decide (j<=i))) h:=(rfl)
theorem Kr:kb (.str a) (.str b) h= .ok (.bl (decide (a=b))) h:=by simp[kb,alike,lD]
theorem Jy:kb (.int i) (.int j) h= .ok (.bl (decide (i=j))) h:=by simp[kb,alike,lD]
theorem GV:ke (.str a) (.str b) h= .ok (.bl (!decide (a=b))) h:=by simp[ke,alike,lD,gS]
theorem Kt:ke (.int i) (.int j) h= .ok (.bl (!decide (i=j))) h:=by simp[ke,alike,lD,gS]
theorem qq:aB (.tup (x::r)) (.int 0) h= .ok x h:=by
 simp only[aB,dZ,pX];rw[if_pos (by decide),if_pos (by simp only[WE];omega)];rfl
theorem jf:aB (.tup (x::y::r)) (.int 1) h= .ok y h:=by
 simp only[aB,dZ,pX];rw[if_pos (by decide),if_pos (by simp only[WE];omega)];rfl
theorem vI:aB (.tup (x::y::z::r)) (.int 2) h= .ok z h:=by
 simp only[aB,dZ,pX];rw[if_pos (by decide),if_pos (by simp only[WE];omega)];rfl
theorem Bc:aB (.tup (x::y::z::w::r)) (.int 3) h= .ok w h:=by
 simp only[aB,dZ,pX];rw[if_pos (by decide),if_pos (by simp only[WE];omega)];rfl
theorem uE:aB (.tup (x::y::z::w::u::r)) (.int 4) h= .ok u h:=by
 simp only[aB,dZ,pX];rw[if_pos (by decide),if_pos (by simp only[WE];omega)];rfl
theorem MV:aB (.tup (x::y::z::w::u::v::r)) (.int 5) h= .ok v h:=by
 simp only[aB,dZ,pX];rw[if_pos (by decide),if_pos (by simp only[WE];omega)];rfl
theorem kD(e:dZ xs i=Wv v):aB (.tup xs) (.int i) h= .ok v h:=by simp only[aB,e]
theorem eW{xs}(e:i=(n)){v: α}(q:xs[n]?=Wv v):dZ xs i=Wv v:=by
 have hl:=(WA.mp q).1;subst e;unfold dZ pX;rw[if_pos (by omega),if_pos (by omega)];simpa using q
def Qh(y:PV)(h:PH)(o:Option PO):RV PV:=match o with
 | some (.dct kvs)=>(match iI y with
  | some k=>(match cx kvs k with | some v=> .ok v h | none=> .no)
  | none=> .no)
 | some (.lst xs)=>(match y with
  | .int i=>(match dZ xs i with | some v=> .ok v h | none=> .no)
  | _=> .no)
 | some (.kZ xs)=>(match y with
  | .int i=>(match dZ xs i with | some v=> .ok v h | none=> .no)
  | _=> .no)
 | none=> .no
theorem xl:aB (.ref n) y h=Qh y h (h[n]?):=by
 unfold Qh;simp only[aB]
noncomputable def TL(h:PH)(o:Option PV):RV PV:=match o with
 | some v=> .ok v h
 | none=> .no
theorem U2:Qh (.str a) h (Wv (.dct kvs))=TL h (cx kvs (.inr a)):=(rfl)
theorem yK:Qh (.int i) h (Wv (.lst xs))=TL h (dZ xs i):=(rfl)
theorem QU:Qh (.int i) h (Wv (.kZ xs))=TL h (dZ xs i):=(rfl)
theorem Jd:TL h (Wv v)= .ok v h:=(rfl)
theorem AJ:cx ((k,v)::kvs) k=Wv v:=by simp[cx]
theorem Fi(ne:k'≠k):cx ((k',v)::kvs) k=cx kvs k:=by simp[cx,ne]
def xQ(n:Nat)(y v:PV)(h:PH)(o:Option PO):RV Unit:=match o with
 | some (.dct kvs)=>(match iI y with
  | some k=>if kvs.length < WJ then .ok () (h.set n (.dct (iA kvs k v))) else .no
  | none=> .no)
 | some (.lst xs)=>(match y with
  | .int i=>(match pX xs.length i with | some j=> .ok () (h.set n (.lst (xs.set j v))) | none=> .no)
  | _=> .no)
 | _=> .no
theorem FL:dM (.ref n) y v h=xQ n y v h (h[n]?):=by
 unfold xQ;simp only[dM]
theorem k4(hl:kvs.length < 16777216):xQ n (.str a) v h (Wv (.dct kvs))= .ok () (h.set n (.dct (iA kvs (.inr a) v))):=if_pos hl
theorem kc(e:i=(m))(hm:m < xs.length):xQ n (.int i) v h (Wv (.lst xs))= .ok () (h.set n (.lst (xs.set m v))):=by
 have:pX xs.length i=Wv m:=by unfold pX;rw[if_pos (by omega),if_pos (by omega)];congr 1;omega
 simp only[xQ,this]
def UY(n:Nat)(v:PV)(h:PH)(o:Option PO):RV PV:=match o with
 | some (.lst xs)=>if xs.length < WJ then .ok .non (h.set n (.lst (xs++[v]))) else .no
 | _=> .no
theorem GW:aG (.ref n) [v] h=UY n v h (h[n]?):=by
 unfold UY;simp only[aG]
theorem l8(hl:xs.length < 16777216):UY n v h (Wv (.lst xs))= .ok .non (h.set n (.lst (xs++[v]))):=if_pos hl
theorem len_T:bV [.tup xs] h= .ok (.int xs.length) h:=(rfl)
theorem So(e:h[n]?=Wv (.kZ xs)):bV [.ref n] h= .ok (.int xs.length) h:=by simp[bV,itemsOf,cH,e]
theorem Mq:jd [.tup xs] h= .ok (.ref h.length) (h++[.lst xs]):=(rfl)
theorem Si:wL [.bl p] h= .ok (.int (if p then 1 else 0)) h:=(rfl)
theorem Sx:gA false .non h= .ok (.bl true) h:=(rfl)
theorem Sa:gA false (.int i) h= .ok (.bl false) h:=by simp[gA]
theorem KZ:gA false (.tup xs) h= .ok (.bl false) h:=by simp[gA]
theorem LX:gA true .non h= .ok (.bl false) h:=(rfl)
section
variable{c:CF}{e:aQ}{d k1 k2:ME}{rr:MA}{kvs:List (Key × PV)}{ff:PV->List PV->PH->RV PV}
def UK(a:Str)(z:PV)(h:PH)(o:Option PO):RV PV:=match o with
 | some (.dct kvs)=> .ok ((cx kvs (.inr a)).getD z) h
 | _=> .no
def T1(x y z:PV)(h3:PH):RV PV:=match x,iI y with
 | .ref n,Wv key=>(match h3[n]? with
  | some (.dct kvs)=> .ok ((cx kvs key).getD z) h3
  | _=> .no)
 | _,_=> .no
def Ub(b:ME) c e x y h2:=(b c e h2).bind (T1 x y)
def UC(a b:ME) c e x h1:=if gS h1 x=true then(a c e h1).bind (Ub b c e x) else .no
def Vf(a b:ME) c e n h (o:Option PO):=match o with
 | some (.dct _)=>(a c e h).bind (Ub b c e (.ref n))
 | _=> .no
theorem MD:Ac d k1 k2 c e h=(d c e h).bind (UC k1 k2 c e):=(rfl)
theorem GU:UC k1 k2 c e (.ref n) h=Vf k1 k2 c e n h (h[n]?):=by
 unfold UC Vf gS;cases q:h[n]? with
 | none=>simp[q]
 | some o=>cases o<;>simp[q]
theorem FC:Vf k1 k2 c e n h (Wv (.dct kvs))=(k1 c e h).bind (Ub k2 c e (.ref n)):=(rfl)
theorem Ha:Ub k2 c e x y h=(k2 c e h).bind (T1 x y):=(rfl)
theorem HM:T1 (.ref n) (.str a) z h=UK a z h (h[n]?):=by
 unfold T1 UK iI;simp only
theorem Fu:UK a z h (Wv (.dct kvs))= .ok ((cx kvs (.inr a)).getD z) h:=(rfl)
def Vi(f:PV->List PV->PH->RV PV)(r:MA) c e n h (o:Option PO):=match o with
 | some (.lst _)=>(r c e h).bind (f (.ref n))
 | _=> .no
theorem KI:TV ff bq rr c e (.ref n) h=Vi ff rr c e n h (h[n]?):=by
 unfold TV Vi bq;cases q:h[n]? with
 | none=>simp[q]
 | some o=>cases o<;>simp[q]
theorem L5:Vi ff rr c e n h (Wv (.lst xs))=(rr c e h).bind (ff (.ref n)):=(rfl)
def Nv(ys:List PV)(h:PH)(o:Option (List (Key × PV))):RV PV:=match o with
 | some kvs=>if ys.length < WJ then .ok (.ref h.length) (h++[.dct (cm [] kvs)]) else .no
 | none=> .no
theorem N3:xw [.tup ys] h=Nv ys h (jF ys):=by
 unfold xw Nv;cases q:jF ys<;>simp[q]
theorem Na(hl:ys.length < 16777216):Nv ys h (Wv kvs)= .ok (.ref h.length) (h++[.dct (cm [] kvs)]):=if_pos hl
theorem Dr:uC c e h= .ok (.ref h.length) (h++[.dct []]):=(rfl)
end
noncomputable def Vr(h:PH)(o:Option PO):RV PV:=match o with
 | some (.lst xs)=> .ok (.tup xs) h
 | some (.kZ xs)=> .ok (.tup xs) h
 | _=> .no
theorem oS:bf [.ref n] h=Vr h (h[n]?):=by
 unfold Vr;cases q:h[n]? with
 | none=>simp[bf,cH,q]
 | some o=>cases o<;>simp[bf,cH,q]
theorem lg:Vr h (Wv (.lst xs))= .ok (.tup xs) h:=(rfl)
noncomputable def U5(h:PH)(o:Option PO):RV PV:=match o with
 | some (.lst xs)=> .ok (.int xs.length) h
 | some (.kZ xs)=> .ok (.int xs.length) h
 | some (.dct kvs)=> .ok (.int kvs.length) h
 | _=> .no
theorem vY:bV [.ref n] h=U5 h (h[n]?):=by
 unfold U5;cases q:h[n]? with
 | none=>simp[bV,itemsOf,cH,q]
 | some o=>cases o<;>simp[bV,itemsOf,cH,q]
theorem qy:U5 h (Wv (.lst xs))= .ok (.int xs.length) h:=(rfl)
noncomputable def Vs(h:PH)(o:Option PO):RV PV:=match o with
 | some (.lst xs)=> .ok (.ref h.length) (h++[.lst xs])
 | some (.kZ xs)=> .ok (.ref h.length) (h++[.lst xs])
 | _=> .no
theorem DX:jd [.ref n] h=Vs h (h[n]?):=by
 unfold Vs;cases q:h[n]? with
 | none=>simp[jd,itemsOf,cH,q]
 | some o=>cases o<;>simp[jd,itemsOf,cH,q]
theorem Aq:Vs h (Wv (.lst xs))= .ok (.ref h.length) (h++[.lst xs]):=(rfl)
theorem jM{a:Str}: ∀{ss:List Str},((ss.map PV.str).any λz=>Qd z (.str a))=decide (a∈ss)
 | []=>by simp
 | x::t=>by
  rw[WH,Yv,jM];by_cases e:x=a
  . subst e;simp[show Qd (.str x) (.str x)=(x == x) from rfl]
  . have e': ¬ a=x:=λz=>e z.symm;simp[show Qd (.str x) (.str a)=(x == a) from rfl,e,e']
theorem all_strs: ∀{ss:List Str},((ss.map PV.str).all gF)=true
 | []=>rfl
 | x::t=>by rw[WH,aab,all_strs];rfl
theorem yr{ss:List Str}:jw (.str a) (.tup (ss.map PV.str)) h= .ok (.bl (decide (a∈ss))) h:=by
 have:isIn (.str a) (.tup (ss.map PV.str)) h=Wv (decide (a∈ss)):=by
  unfold isIn;simp only[itemsOf,all_strs,gF,aac,if_true,jM]
 unfold jw;rw[this]
theorem zZ{ss:List Str}:kA (.str a) (.tup (ss.map PV.str)) h= .ok (.bl (!decide (a∈ss))) h:=by
 have:isIn (.str a) (.tup (ss.map PV.str)) h=Wv (decide (a∈ss)):=by
  unfold isIn;simp only[itemsOf,all_strs,gF,aac,if_true,jM]
 unfold kA;rw[this]
theorem in_K{ss:List Str}:jw (.str a) (.ktup (ss.map PV.str)) h= .ok (.bl (decide (a∈ss))) h:=by
 have:isIn (.str a) (.ktup (ss.map PV.str)) h=Wv (decide (a∈ss)):=by
  unfold isIn;simp only[itemsOf,all_strs,gF,aac,if_true,jM]
 unfold jw;rw[this]
section
variable{c:CF}{e:aQ}{d:ME}{kvs:List (Key × PV)}
def V8(kvs:List (Key × PV))(x:PV)(h:PH):RV PV:=match iI x with
 | some key=>(match cx kvs key with
  | some v=> .ok v h
  | none=> .no)
 | none=> .no
theorem Sz:tF kvs d c e h=(d c e h).bind (V8 kvs):=(rfl)
theorem O8:V8 kvs (.str a) h=TL h (cx kvs (.inr a)):=(rfl)
end
section
variable{c:CF}{e:aQ}{d:ME}{l uu:MO}
def Ny(uu:MO) c e x (lo:Option Int) h:=(uu c e h).bind (Am x lo)
def RH(l uu:MO) c e x h:=(l c e h).bind (Ny uu c e x)
theorem Q4:q9 d l uu c e h=(d c e h).bind (RH l uu c e):=(rfl)
theorem Lv:RH l uu c e x h=(l c e h).bind (Ny uu c e x):=(rfl)
theorem LG{lo}:Ny uu c e x lo h=(uu c e h).bind (Am x lo):=(rfl)
theorem Rk:dS c e h= .ok Wx h:=(rfl)
noncomputable def VP(v:PV)(h1:PH):RV (Option Int):=match v with
 | .int i=> .ok (Wv i) h1
 | _=> .no
theorem Su:cB d c e h=(d c e h).bind VP:=(rfl)
theorem Ly:VP (.int i) h= .ok (Wv i) h:=(rfl)
theorem FT{lo}:Am (.tup xs) lo hi h= .ok (.tup (gM xs lo hi)) h:=(rfl)
def Vh(lo hi:Option Int)(h:PH)(o:Option PO):RV PV:=match o with
 | some (.lst xs)=> .ok (.ref h.length) (h++[.lst (gM xs lo hi)])
 | some (.kZ xs)=> .ok (.ref h.length) (h++[.lst (gM xs lo hi)])
 | _=> .no
theorem Vj{lo}:Am (.ref n) lo hi h=Vh lo hi h (h[n]?):=by
 unfold Vh;cases q:h[n]? with
 | none=>simp[Am,cH,q]
 | some o=>cases o<;>simp[Am,cH,q]
theorem Qo{lo}:Vh lo hi h (Wv (.lst xs))= .ok (.ref h.length) (h++[.lst (gM xs lo hi)]):=(rfl)
theorem ig{lo}(h0:0<=lo):gM xs (Wv lo) Wx=xs.drop lo.toNat:=by
 have e:lo=((lo.toNat)):=by omega
 unfold gM;rw[e,HT.oX,HT.mG];simp only[XA];rcases acq lo.toNat xs.length with z | z
 . rw[aaj z];exact YB (by rw[YJ];omega)
 . rw[aaN z,Ye z];simp
theorem o7(h0:0<=hi):gM xs Wx (Wv hi)=xs.take hi.toNat:=by
 have e:hi=((hi.toNat)):=by omega
 unfold gM;rw[e,HT.oX,HT.mG];simp only[XA,acT,adR];rcases acq hi.toNat xs.length with z | z
 . rw[aaj z]
 . rw[aaN z,YB (WG _),YB z]
end
variable{o o':PO}{g:PH}{k:Nat}
theorem aR:(h++(o::g))[h.length]?=Wv o:=by rw[Xe (WG _)];simp
theorem aM:(h++g)[h.length+k]?=g[k]?:=by rw[Xe (by omega)];congr 1;omega
theorem aw(hn:n < h.length):(h++g)[n]?=h[n]?:=Xu hn
theorem fW:(h++g).set h.length o=h++g.set 0 o:=by simp
theorem pb:(h++g).set (h.length+k) o=h++g.set k o:=by rw[List.set_append_right _ _ (by omega)];congr 2;omega
theorem aC(e:h[n]?=Wv o):n < h.length:=(WA.mp e).1
end
section
variable{h:PH}{i j:Int}{a b:Str}{x y z w u v:PV}{r xs ys:List PV}{p q:Bool}{n m:Nat}
theorem PJ:nK [.int i,.ty "bool"] h= .ok (.bl false) h:=(rfl)
theorem L8:nK [.int i,.ty "int"] h= .ok (.bl true) h:=(rfl)
theorem AU: ∀ bs ,yh (bs.map PV.bl)=Wv bs
 | []=>rfl
 | b::r=>by rw[WH,yh,AU r];rfl
theorem QK{bs:List Bool}(e:h[n]?=Wv (.lst (bs.map PV.bl))):IZ [.ref n] h= .ok (.bl (bs.all id)) h:=by
 simp[IZ,Ax,cH,e,AU]
theorem rR:dZ (x::r) 0=Wv x:=by simp only[dZ,pX];rw[if_pos (by decide),if_pos (by simp only[WE];omega)];rfl
theorem yc:dZ (x::y::r) 1=Wv y:=by simp only[dZ,pX];rw[if_pos (by decide),if_pos (by simp only[WE];omega)];rfl
theorem yu:dZ (x::y::z::r) 2=Wv z:=by simp only[dZ,pX];rw[if_pos (by decide),if_pos (by simp only[WE];omega)];rfl
theorem Di:dZ (x::y::z::w::r) 3=Wv w:=by simp only[dZ,pX];rw[if_pos (by decide),if_pos (by simp only[WE];omega)];rfl
end
section
variable{c:CF}{e:aQ}{h h1:PH}{a b:ME}{r:MP}{x y v:PV}{kvs:List (Key × PV)}{key:Key}{s:Str}{i:Int}{n:Nat}
def Qc(n:Nat)(kvs:List (Key × PV))(h1:PH):RV PV:=if h1[n]?=Wv (.dct [])/\kvs.length<=15 then .ok (.ref n) (h1.set n (.dct (cm [] kvs))) else .no
noncomputable def U4(key:Key)(v:PV)(kvs:List (Key × PV))(h3:PH):RV (List (Key × PV)):= .ok ((key,v)::kvs) h3
def Ve key (r:MP) c e v h2:=(r c e h2).bind (U4 key v)
def VW(b:ME)(r:MP)(c:CF)(e:aQ)(x:PV)(h1:PH):RV (List (Key × PV)):=match iI x with
 | some key=>(b c e h1).bind (Ve key r c e)
 | none=> .no
theorem lO:vJ r c e h=(r c e (h++[.dct []])).bind (Qc h.length):=(rfl)
theorem pA:D8 c e h= .ok [] h:=(rfl)
theorem pS:fG a b r c e h=(a c e h).bind (VW b r c e):=(rfl)
theorem lq:VW b r c e (.str s) h=(b c e h).bind (Ve (.inr s) r c e):=(rfl)
theorem pT:Ve key r c e v h=(r c e h).bind (U4 key v):=(rfl)
theorem ph:U4 key v kvs h= .ok ((key,v)::kvs) h:=(rfl)
theorem DC(h1:h[n]?=Wv (.dct []))(h2:kvs.length<=15):Qc n kvs h= .ok (.ref n) (h.set n (.dct (cm [] kvs))):=if_pos ⟨h1,h2⟩
theorem AF(h2:kvs.length<=15):Qc h.length kvs (h++[.dct []])= .ok (.ref h.length) (h++[.dct (cm [] kvs)]):=by
 rw[DC aR h2,fW];rfl
end
section
variable{α :Type}{p:List α ->Prop}
theorem Wj(h:p []): ∀ us:List α,us.length=0->p us:=λus e=>by rw[List.length_eq_zero_iff.mp e];exact h
theorem Q0{n:Nat}(h: ∀ a: α,∀ us:List α,us.length=n->p (a::us)): ∀ us:List α,us.length=n+1->p us:=λus e=>by
 cases us with
 | nil=>simp at e
 | cons a r=>exact h a r (by simpa using e)
theorem VL(h: ∀ a,p [a]): ∀ us:List α,us.length=1->p us:=Q0 λa=>Wj (h a)
theorem V0(h: ∀ a b,p [a,b]): ∀ us:List α,us.length=2->p us:=Q0 λa=>VL (h a)
theorem VU(h: ∀ a b c,p [a,b,c]): ∀ us:List α,us.length=3->p us:=Q0 λa=>V0 (h a)
theorem VM(h: ∀ a b c d,p [a,b,c,d]): ∀ us:List α,us.length=4->p us:=Q0 λa=>VU (h a)
theorem Wi(h: ∀ a b c d e,p [a,b,c,d,e]): ∀ us:List α,us.length=5->p us:=Q0 λa=>VM (h a)
end
section
variable{X:Cx}{pg:Tb}{k:Nat}{e iter:XH}{ma:ME}{mt:MT}{mI:MI}{scope:aby}{ifs:List XH}{pos spos py vp wp tp:Pos}{y v w:Str}{i j m n:Nat}
theorem GC.of{K}(h:ac6 n i=true):GC K n (gG i) (gN i):=GS (Nat.le_of_ble_eq_true h)
theorem M0(hi:JI X pg k (.Name v vp) iter mI)
  (hb: ∀ cl C s₀ H₀ ex pn,(cX X pg k->QG (fK X [v] scope cl C s₀ H₀ ex pn) (.Name v vp) (gG m))/\JF (fK X [v] scope cl C s₀ H₀ ex pn) pg k ifs mt/\JE (fK X [v] scope cl C s₀ H₀ ex pn) pg k e ma)
  (hm:ac6 X.N.length m=true:=by rfl) (hkind:scope.kind= .function:=by rfl) (hlc:jg scope.names X.env.scope.names X.N [v]=true:=by rfl) (hs: ∀ x,XM iter X.env x=pure x:=by intro _;rfl) :
  JE X pg k (.ListComp e [⟨.Name v vp,iter,ifs,0⟩] scope pos) (je 1 mI (gN m) mt ma):=xb [v] hkind hlc hi hb (GC.of hm) hs
theorem Nz(hi:JI X pg k (.Tuple [.Name v vp,.Name w wp] j tp) iter mI)
  (hb: ∀ cl C s₀ H₀ ex pn,(cX X pg k->QG (fK X [v,w] scope cl C s₀ H₀ ex pn) (.Tuple [.Name v vp,.Name w wp] j tp) (xS X.K 2 (nU (gG m) (nU (gG n) A7))))/\JF (fK X [v,w] scope cl C s₀ H₀ ex pn) pg k ifs mt/\JE (fK X [v,w] scope cl C s₀ H₀ ex pn) pg k e ma)
  (hm:ac6 X.N.length m=true:=by rfl) (hn:ac6 X.N.length n=true:=by rfl) (hkind:scope.kind= .function:=by rfl) (hlc:jg scope.names X.env.scope.names X.N [v,w]=true:=by rfl) (hs: ∀ x,XM iter X.env x=pure x:=by intro _;rfl) :
  JE X pg k (.ListComp e [⟨.Tuple [.Name v vp,.Name w wp] j tp,iter,ifs,0⟩] scope pos) (je 2 mI (gT 2 (aA (gN m) (aA (gN n) cw))) mt ma):=xb [v,w] hkind hlc hi hb (Ge (mN (GC.of hm) (mN (GC.of hn) Ah))) hs
theorem LK(hN:X.N.Nodup)(hi:JI X pg k (.Name v vp) iter mI)
  (hb: ∀ cl C s₀ H₀ ex pn,(cX X pg k->QG (fK X [v] scope cl C s₀ H₀ ex pn) (.Name v vp) (gG m))/\JF (fK X [v] scope cl C s₀ H₀ ex pn) pg k ifs mt/\JE (fK X [v] scope cl C s₀ H₀ ex pn) pg k e ma)
  (hm:ac6 X.N.length m=true:=by rfl) (hiy:X.N[i]?=Wv y:=by rfl) (hy:Loc X.env.scope y:=by first | exact ad5 rfl | exact acS rfl) (hkind:scope.kind= .function:=by rfl) (hlc:jg scope.names X.env.scope.names X.N [v]=true:=by rfl)
  (hsw:ZH (.ListComp e [⟨.Name v vp,iter,ifs,0⟩] scope pos) (Wv (.Name y py)) spos.line X.env=pure true:=by rfl) (hs: ∀ x,XM iter X.env x=pure x:=by intro _;rfl)
  (hf:X.fn y=true\/X.env.scope.names.lookup y=Wv .local:=by first | exact .inl rfl | exact .inr rfl | assumption) :
  JS X pg k (.Assign [.Name y py] (.ListComp e [⟨.Name v vp,iter,ifs,0⟩] scope pos) spos) (ai (je 1 mI (gN m) mt ma) (gN i)):=wG [v] i hkind hlc hN hiy hy hi hb (GC.of hm) hsw hs hf
theorem Mv(hN:X.N.Nodup)(hi:JI X pg k (.Tuple [.Name v vp,.Name w wp] j tp) iter mI)
  (hb: ∀ cl C s₀ H₀ ex pn,(cX X pg k->QG (fK X [v,w] scope cl C s₀ H₀ ex pn) (.Tuple [.Name v vp,.Name w wp] j tp) (xS X.K 2 (nU (gG m) (nU (gG n) A7))))/\JF (fK X [v,w] scope cl C s₀ H₀ ex pn) pg k ifs mt/\JE (fK X [v,w] scope cl C s₀ H₀ ex pn) pg k e ma)
  (hm:ac6 X.N.length m=true:=by rfl) (hn:ac6 X.N.length n=true:=by rfl) (hiy:X.N[i]?=Wv y:=by rfl) (hy:Loc X.env.scope y:=by first | exact ad5 rfl | exact acS rfl) (hkind:scope.kind= .function:=by rfl) (hlc:jg scope.names X.env.scope.names X.N [v,w]=true:=by rfl)
  (hsw:ZH (.ListComp e [⟨.Tuple [.Name v vp,.Name w wp] j tp,iter,ifs,0⟩] scope pos) (Wv (.Name y py)) spos.line X.env=pure true:=by rfl) (hs: ∀ x,XM iter X.env x=pure x:=by intro _;rfl)
  (hf:X.fn y=true\/X.env.scope.names.lookup y=Wv .local:=by first | exact .inl rfl | exact .inr rfl | assumption) :
  JS X pg k (.Assign [.Name y py] (.ListComp e [⟨.Tuple [.Name v vp,.Name w wp] j tp,iter,ifs,0⟩] scope pos) spos) (ai (je 2 mI (gT 2 (aA (gN m) (aA (gN n) cw))) mt ma) (gN i)):=wG [v,w] i hkind hlc hN hiy hy hi hb (Ge (mN (GC.of hm) (mN (GC.of hn) Ah))) hsw hs hf
end
end P3
end
section
open PySem PySem.W PyProof.Rows
namespace L2
open PySem PySem.Spec PyProof.Rows
theorem lM: ∀{us ss},aba us ss-> ∀ i hu(hs:i < ss.length),abc a us[i]=(ss[i] == a)
 | _,_,.nil,i,hu,_=>absurd hu (aa2 i)
 | _,_,.cons x t h,0,_,_=>rfl
 | _,_,.cons x t h,i+1,hu,hs=>lM h i (acs hu) (acs hs)
theorem zH{ss:List Str}(h:a∈ss):ss.idxOf a < ss.length:=List.idxOf_lt_length_iff.mpr h
section
variable{X:Cx}
def Ht:V->List V->Hp->VK->Prop:=λx vs H Q=> ∃(l:W2)(ss:List Str)(a:Str),x= .ref l/\vs=[.str a]/\H l=Wv (.lst (ss.map V.str))/\a∈ss/\Q .non (upd H l (.lst ((ss.map V.str).eraseIdx (ss.idxOf a))))
theorem CL:Ur X "list.remove" Ht:=by
 intro pins s σ H x vs v us Q I rx rv h;obtain⟨l,ss,a,rfl,rfl,hH,ha,q⟩:=h;cases rx;obtain⟨u,rfl,t,rfl⟩:=rv.one;obtain⟨z,ak,n,r,hl,e⟩:=I.CI hH;have sa:=gI r;have ln:ak.length=ss.length:=by rw[<- hl,Wy]
 have hj:=zH ha;refine YV F.slot_list_remove ⟨_,e,rfl⟩ F.entry_list_remove (F.args_list_remove_2 _ _)
  (MeetsSeq.list_remove l ak.toArray n (.str a t) (abc a) (λy hy=>eq_isStrOf a t sa y (by simpa using hy)) (ss.idxOf a) (by rw[WZ,ln];exact hj) ?_ ?_ (by rw[WZ,<- hl];exact z)) ⟨e,?_⟩
 . show abc a (ak[ss.idxOf a]'(by rw[ln];exact hj))=true;rw[lM sa _ _ hj,adB hj,beq_self_eq_true]
 . intro m hm hlt;have hm':m < ss.length:=by rw[WZ,ln] at hm;exact hm
   show abc a (ak[m]'(by rw[ln];exact hm'))=false;rw[lM sa _ _ hm'];have:=acu (p:=(· == a)) (xs:=ss) (i:=m) hlt
   simpa using this
 . refine⟨.non,_,I.RG (its':=ak.eraseIdx (ss.idxOf a)) hH e ?_ (r.eraseIdx _) ?_,rfl,q⟩
   . rw[List.eraseIdxIfInBounds_toArray]
   . have:=sR (ss.map V.str) (ss.idxOf a);omega
end
end L2
namespace P3
open PySem PySem.Spec PyProof.Rows L2
section
variable{X:Cx}{pg:Tb}{k:Nat}
theorem sU{α β :Type}(f: α -> β): ∀(l:List α) i,(l.map f).eraseIdx i=(l.eraseIdx i).map f
 | [],i=>by simp
 | a::r,0=>rfl
 | a::r,i+1=>by simp[sU f r i]
noncomputable def ur(ss:List Str) a:=ss.eraseIdx (ss.idxOf a)
def mn:PV->List PV->PH->RV PV:=λx vs h=>match x,vs with
 | .ref n,[.str a]=>(match h[n]? with
  | some (.lst xs)=>(match fu xs with
   | some ss=>if a∈ss then .ok .non (h.set n (.lst ((ur ss a).map PV.str))) else .no
   | none=> .no)
  | _=> .no)
 | _,_=> .no
theorem Ff:cX X pg k-> ∃ r,KS X "list.remove" r/\T6 X.K "list" r mn bq:=λA=>⟨_,CL,fun ρ h H x x' s r e=>qj s r e,fun ρ h H x x' xs us Q v h' s rx rs q P=>by
 unfold mn at q;split at q
 . rename_i n a;split at q
   . rename_i ys en;split at q
     . rename_i ss es;split at q
       . rename_i ha;cases q;obtain⟨b,vs,rfl,ea,e1,e2⟩:=s.lst en rx;obtain⟨u,rfl,r⟩:=aP rs;subst r;rw[fc es,b6] at e2;subst e2;have g:Gr ρ H ρ (upd H b (.lst ((ss.map V.str).eraseIdx (ss.idxOf a)))):=Gr.write (.inl ⟨_,e1⟩);refine⟨b,ss,a,rfl,rfl,e1,ha,P _ ρ _ g (s.write en ea rfl rfl ⟨_,aX,?_⟩) (by rw[rel])⟩;rw[b6,ur,sU]
       . nomatch q
     . nomatch q
   . nomatch q
 . nomatch q⟩
end
section
variable{h:PH}{n:Nat}{ss:List Str}{a:Str}{y:PV}{r:List PV}
theorem U7(e:h[n]?=Wv (.lst (ss.map PV.str)))(ha:a∈ss):mn (.ref n) [.str a] h= .ok .non (h.set n (.lst ((ur ss a).map PV.str))):=by
 simp only[mn,e,dC,if_pos ha]
end
section
variable{X:Cx}{pg:Tb}{k i:Nat}{e:XH}{x:Str}{ma:ME}{pos pos':Pos}
noncomputable def ES:PV->PV->PH->RV PV:=λx y h=>match x,y with
 | .int a,.int b=> .ok (.int (a+b)) h
 | _,_=> .no
end
section
variable{X:Cx}{pg:Tb}{k j n:Nat}{es:List XH}{t:Gm}{pos:Pos}{vars:List Str}{scope:aby}{cl:List (Str × W2)}{C:W2}{s0:WK}{H0:Hp}{ex:List W2}{pn:List (W2 × Obj)}
theorem J5(A:cX X pg k)(h:L3 (fK X vars scope cl C s0 H0 ex pn) es t)(hn:(X6 es (fK X vars scope cl C s0 H0 ex pn).env).length=n:=by rfl)(hst:(X6 es (fK X vars scope cl C s0 H0 ex pn).env).findIdx? (·.1)=Wx:=by rfl):QG (fK X vars scope cl C s0 H0 ex pn) (.Tuple es j pos) (xS X.K n t):=Dd A.calm h hn hst
end
theorem Fd(hh:A.handled=Wx)(hne:l≠it) us :
  Draws prog w A it [it,l] us.size (λi v=>us[i]?=Wv v) (λi h=>h.IsTupleIter it l i/\h.IsTuple l us) where
 live:=λ_ _ z=>by obtain⟨⟨o,e,_⟩,_⟩:=z;exact⟨o,e⟩
 frame:=λ_ _ _ z kp=>by
  obtain⟨⟨o,e,r⟩,⟨o2,e2,r2⟩⟩:=z;exact⟨⟨o,kp it (by simp) o e,r⟩,⟨o2,kp l (by simp) o2 e2,r2⟩⟩
 item:=λi s Q E hi z q=>iJ z.1 z.2 (x:=us[i]) (by simp [hi]) λh' a b=>q _ h' s.toks (by simp [hi]) ⟨a,by obtain ⟨o2,e2,r2⟩:=z.2;exact ⟨o2,b.extBut _ _ hne e2,r2⟩⟩ b
 done:=λs Q E z q=>nM hh z.1 z.2 (by simp) q
def VC(K : Wz)(a : W2) : It :=
  ⟨λi H => ∃ xs x, fw K H a xs /\ xs[i]? = Wv x,
   λi H v H' => ∃ p x, H p = Wx /\ v = .ref p /\ H' = upd H p (.tup [.int (i), x]) /\ ∀ xs, fw K H a xs -> xs[i]? = Wv x,
   λi H => ∃ xs, fw K H a xs /\ xs.length = i⟩
theorem Cr{K}(hei:e≠it)(hea:e≠a)(hai:a≠it) :
  Turn P w K (.Tuple els j pos) (VC K a) [e,it] e (λi h=>(∃ old,IsEnum h e it i old)∧h.IsTupleIter it a i) where
 mem:=by simp
 obj:=λi h z b hb=>by
  obtain⟨⟨old,e1⟩,⟨o4,e4,_,d4⟩⟩:=z;simp only[W4,or_false,WM] at hb;rcases hb with rfl | rfl
  . exact⟨_,e1,λv q=>by cases q⟩
  . exact⟨_,e4,λv q=>by rw[d4] at q;cases q⟩
 keep:=λi h h' z kp=>by
  obtain⟨⟨old,e1⟩,⟨o4,e4,d4⟩⟩:=z;exact⟨⟨old,kp _ (by simp) _ e1⟩,⟨o4,kp _ (by simp) _ e4,d4⟩⟩
 item:=by
  intro X hP hw hK hc i pins s σ H E I hf z hg;subst hP hw hK;obtain⟨xs,x,s1,ex⟩:=hg;obtain⟨us,ru,pu,_⟩:=I.tuple s1;obtain⟨ux,eu,rx⟩:=ru.get ex;obtain⟨⟨old,e1⟩,hit⟩:=z;have hlt:i < us.toArray.size:=by simpa using(WA.mp eu).1
  refine wpAny_pyNext_enum_itemD (Fd (A:=X.A.in1) (show X.A.in1.handled=Wx from I.ok.hd hc) hai us.toArray) e1 ⟨hit,pu⟩ hlt hei (by simp[hei,hea]) λy h1 tk f1 f2 f3 f4 f5 f6=>⟨_,rfl,?_⟩
  have hy:y=ux:=by
   have h2:us.toArray[i]?=Wv ux:=by simpa using eu
   rw[h2] at f1;cases f1;rfl
  subst hy;refine wpAny_letOwnedTupleGo_enum (s:={ s with heap:=h1,toks:=tk+1}) f2 λh2 g1 g2=>?_;have ex1:=g2.extBut;have elt:=WN e1;have new:=ex1 _ _ (Yq elt) f4;have hn:=I.bA.fresh (WG _);have I2:Inv X pins σ (upd H s.heap.objs.size (.tup [.int (i),x])) { s with heap:=h2,toks:=tk+1}:=by
   refine mU (turned:=[e,it]) I (λb o nb q=>?_) (λb hb=>hf b hb) (WG _) ?_
   . simp only[WM,W4,or_false,not_or] at nb;exact ex1 _ _ nb.1 (f6 b o nb.1 nb.2 q)
   . exact⟨by show 2<=WJ;decide,[.int i tk,y],.cons ⟨tk,rfl⟩ (.cons rx .nil),_,new,rfl,_,rfl,rfl⟩
  refine⟨.ref s.heap.objs.size,upd H s.heap.objs.size (.tup [.int (i),x]),I2,rfl,⟨_,x,hn,rfl,rfl,λxs' q=>?_⟩,?_,λb hb=>?_⟩
  . rw[I.jW q s1];exact ex
  . obtain⟨⟨o4,e4,c4⟩,_⟩:=f3;exact⟨⟨_,by simpa using g1⟩,⟨o4,ex1 _ _ hei.symm e4,c4⟩⟩
  . have hb0:=(hf b hb).1;have: ∃ o,s.heap.get? b=Wv o:=by
     obtain⟨o4,e4,_⟩:=hit;simp only[W4,or_false,WM] at hb;rcases hb with rfl | rfl
     . exact⟨_,e1⟩
     . exact⟨_,e4⟩
    obtain⟨o,eo⟩:=this;rw[ax (W7 (WN eo))];exact hb0
 done:=by
  intro X hP hw hK hc i pins s σ H E I hf z hg;subst hP hw hK;obtain⟨xs,s1,he⟩:=hg;obtain⟨us,ru,pu,_⟩:=I.tuple s1;obtain⟨⟨old,e1⟩,hit⟩:=z;have ei:i=us.toArray.size:=by have:=ru.length;simp;omega
  rw[ei] at hit;refine wpAny_pyNext_enum_endD (Fd (A:=X.A.in1) (show X.A.in1.handled=Wx from I.ok.hd hc) hai us.toArray) e1 ⟨hit,pu⟩ λh1 kp=>⟨rfl,qu (turned:=[e,it]) (t':=s.toks) I (λb o nb q=>?_) λb hb=>hf b hb⟩
  simp only[WM,W4,or_false,not_or] at nb;exact kp b o nb.2 q
 self:=λA i s Q E z h=>by
  obtain⟨⟨old,e1⟩,_⟩:=z;exact wpAny_pyIter_enum e1 h
abbrev Rc(h:X8)(a:W2):X8:=Yt (Yt h (tI a)) { cls:= .type "enumerate",data:= .fields #[.none,.bool false,.ref h.objs.size,ad0 0,.none,.none]}
theorem ug a us:aei (Zx.«enumerate.__new__» ⟨[.type "enumerate",.ref a],[]⟩) (λ_ R u=>u.heap.IsTuple a us/\R (.ok (.ret (.ref (u.heap.objs.size+1)))) { u with heap:=Rc u.heap a}) :=
 .of_wp λprog w A R u hu=>by
  obtain⟨hp,gg,dd,tk,os⟩:=u;obtain⟨ha,hr⟩:=hu;have sub:=sub_enumerate;have fa:=ha
  wp_walk using YL fa
  refine wpAny_stack_any λz=>?_;refine WI ?_;have fin1: ∀ v u,v=W6 (hp.objs.size+1)->u=(⟨Rc hp a,gg,dd,tk,os⟩:WK)->R (.ok (.ret v)) u:=λv u e1 e2=>by rw[e1,e2];exact hr
  split
  . rename_i c _ _ _ _ _;cases c == YT "enumerate" <;>(wp_walk using YL fa;exact⟨_,rfl,fin1 _ _ (by simp[XT]) rfl⟩)
  . wp_walk using YL fa
    exact⟨_,rfl,fin1 _ _ (by simp[XT]) rfl⟩
section
variable{X:Cx}{pg:Tb}{k:Nat}{a:XH}{ma:ME}{p pos:Pos}{els:List XH}{j:Nat}{tpos:Pos}
theorem Nm h l:(∃ old,IsEnum (Rc h l) (h.objs.size+1) h.objs.size ((0:Nat)) old)/\(Rc h l).IsTupleIter h.objs.size l 0:=by
 have n1:(Yt h (tI l)).objs.size=h.objs.size+1:=XT ..;refine⟨⟨.none,?_⟩,⟨tI l,?_,rfl,rfl⟩⟩
 . rw[<- n1];exact WS _ rfl
 . refine WB _ ?_;exact WS _ rfl
def Ox(K:Wz)(ta:TA):TI:=fun σ H R=>ta σ H λvs H1=> ∃ a1 xs,vs=[.ref a1]/\fw K H1 a1 xs/\R (VC K a1) H1
theorem HF(hg:Gl X "enumerate")(hm:X.mg "enumerate" =Wx)(ha:PA X [a] ta)(hs:Xp [a] X.env=[(false,Yu a X.env)]) :
  PI X (.Tuple els j tpos) (.Call (.Name "enumerate" p) [a] [] pos) (Ox X.K ta):=by
 intro pins s σ H R I h;refine Call_ (gY I hg hm boot_enumerate (XI (Bm (ha pos pins s σ H _ I h) λus s1 vs H1 I1 r1 ⟨a1,xs,e,q1,q⟩=>?_) (by rw[hs];rfl) (by rfl)));subst e;cases r1 with
 | cons ra rr =>
  cases rr
  cases ra
  obtain⟨u1,_,p1,_⟩:=I1.tuple q1
  refine callType_new F.called_enumerate (by decide) (F.typeCall_enumerate_1 _) (F.newCall_enumerate_1 _) (λobj=>F.args_object_init_2 obj _) F.entry_enumerate_new (ug a1 u1.toArray) ⟨p1,?_⟩
  obtain⟨⟨old,Z⟩,W⟩:=Nm s1.heap a1
  have lt1:a1 < s1.heap.objs.size:=by obtain⟨_,e,_⟩:=p1;exact WN e
  refine⟨⟨_,Z,rfl⟩,wpAny_pyIter_enum Z ?_⟩
  have kp: ∀ c o,s1.heap.get? c=Wv o->(Rc s1.heap a1).get? c=Wv o:=λc o e=>WB _ (WB _ e)
  refine⟨s1.heap.objs.size+1,[s1.heap.objs.size+1,s1.heap.objs.size],_,_,H1,rfl,I1.kept (t':=s1.toks) kp,Cr (Yq (ZS _)) (Yq (Zb lt1)) (W7 lt1),⟨⟨old,Z⟩,W⟩,λc hc=>?_,q⟩
  have hle:s1.heap.objs.size<=c:=by
   simp only[WM,W4,or_false] at hc;rcases hc with rfl | rfl<;>omega
  exact I1.yy hle (I1.bA.fresh hle)
def Fw(a:ME):MI:=λc e h=>(a c e h).bind λx h1=>match x.seq? with
 | some xs=> .ok ⟨Wx,xs.zipIdx.map λq=> .tup [.int (q.2),q.1]⟩ h1
 | none=> .no
theorem JL(hg:Gl X "enumerate")(ha:JE X pg k a ma)(hs1:noStar a=true:=by rfl):JI X pg k (.Tuple els j tpos) (.Call (.Name "enumerate" p) [a] [] pos) (Fw ma):=⟨λA=>by
 obtain⟨_,q1,s1⟩:=ha.h A;refine⟨_,⟨HF hg (A.blt _ (by decide +kernel)) (qk q1 uS hs1).h (by rw[bE hs1];rfl)⟩,fun ρ h H e σ R it h' s r q P=>?_⟩;obtain⟨x,h1,e1,q⟩:=bind_eq.mp q;refine s1 ρ h H e σ _ x h1 s r e1 λx' ρ1 H1 g1 z1 r1=>?_;split at q
 . rename_i xs ex;cases q;obtain⟨a1,us,rfl,t1,d1⟩:=rel.seq ex r1;refine⟨a1,us,rfl,t1,P ρ1 H1 _ g1 z1 λi ρ3 h3 H3 g s3 _=>⟨λv ev=>?_,λei=>?_⟩⟩
   . rw[WT] at ev;cases ez:xs.zipIdx[i]? with
     | none=>rw[ez] at ev;cases ev
     | some pr =>
      rw[ez] at ev
      cases ev
      have zx:xs[i]?=Wv pr.1/\pr.2=i:=by
       rw[List.getElem?_zipIdx] at ez;cases ey:xs[i]? with
       | none=>rw[ey] at ez;cases ez
       | some y=>rw[ey] at ez;cases ez;exact⟨rfl,by simp⟩
      obtain⟨u,f1,f2⟩:=(ao.gr g _ _ d1).get zx.1
      refine⟨⟨us,u,g.Gj t1,f1⟩,?_⟩
      rintro v' H' ⟨p,u',hp,rfl,rfl,k1⟩
      have:=k1 us (g.Gj t1)
      rw[f1] at this;cases this
      have gn:Gr ρ3 H3 ρ3 (upd H3 p (.tup [.int (i:Int),u])):=Gr.xE hp
      refine⟨ρ3,gn,s3.tup hp,?_⟩
      exact⟨p,_,rfl,aX,az.mpr ⟨_,_,rfl,by rw[rel,zx.2],ao.one (rel.gr gn _ _ f2)⟩⟩
   . refine⟨us,g.Gj t1,?_⟩;have:i=xs.length:=by simpa using ei
     rw[<- d1.len];exact this.symm
 . cases q⟩
end
section
variable{c:CF}{e:aQ}{h:PH}{a:ME}{xs:List PV}
noncomputable def Wa(x:PV)(h1:PH):RV uj:=match x.seq? with
 | some xs=> .ok ⟨Wx,xs.zipIdx.map λq=> .tup [.int (q.2),q.1]⟩ h1
 | none=> .no
theorem Ih:Fw a c e h=(a c e h).bind Wa:=(rfl)
theorem CY:Wa (.tup xs) h= .ok ⟨Wx,xs.zipIdx.map λq=> .tup [.int (q.2),q.1]⟩ h:=(rfl)
end
section
variable{X:Cx}{pg:Tb}{k:Nat}
def QL(K:Wz):List V->Hp->VK->Prop:=λxs H Q=> ∃ p d,xs=[.ref p]/\cA K H d (.ref p)/\d.showable=true/\d.hasDict=false/\d.depth<=64/\d.shown.length<=WJ/\Q (.str d.shown) H
theorem F8(gd:X.A.guards=Wv [])(hu:X.A.units+66 < ZV):aS X (.builtin "repr") (QL X.K):=by
 intro pins s σ H xs us Q I r h;obtain⟨p,d,rfl,hd,h1,h2,h3,h4,q⟩:=h;obtain⟨u,rfl,ru⟩:=vals1 r;cases(show u=W6 p from ru);obtain⟨as,ra⟩:=cA.reads I d _ _ hd ru;exact repr_of_reads' ra h1 (λz=>by rw[h2] at z;cases z) gd (by omega) (λ_ _ z=>z) (λh' u tk kp=>⟨.str d.shown,H,I.kept kp,⟨u,rfl⟩,q⟩) h4
theorem Af: ∀ n b vs,vs.length=n->(∀ j v,vs[j]?=Wv v-> ∃ t,v=ZR ((b+j:Nat)) t)->Vals ((ael b n).map λi:Nat=>V.int (i)) vs
 | 0,b,vs,hl,_=>by
  cases vs with
  | nil=>exact .nil
  | cons v r=>cases hl
 | n+1,b,vs,hl,h=>by
  cases vs with
  | nil=>cases hl
  | cons v r =>
   refine .cons ?_ (Af n (b+1) r (by simpa using hl) λj v e=>?_)
   . obtain⟨t,rfl⟩:=h 0 v rfl;exact⟨t,rfl⟩
   . obtain⟨t,rfl⟩:=h (j+1) v e;exact⟨t,by congr 2;omega⟩
variable{a:XH}{ta:TA}{mr:MA}{p p2 p3 pos:Pos}
def Wt(ta:TA):TE:=fun σ H Q=>ta σ H λvs H1=> ∃ n:Nat,vs=[.int n]/\n<=100000/\ ∀ l,H1 l=Wx->Q (.ref l) (upd H1 l (.lst ((Xj n).map λi:Nat=>V.int (i))))
theorem BB(hL:Gl X "list")(mL:X.mg "list" =Wx)(hR:Gl X "range")(mR:X.mg "range" =Wx)(hd:X.A.handled=Wx)(ha:PA X [a] ta)(hs:Xp [a] X.env=[(false,Yu a X.env)])(hs2:Xp [.Call (.Name "range" p2) [a] [] p3] X.env=[(false,Yu (.Call (.Name "range" p2) [a] [] p3) X.env)]) :
  PE X (.Call (.Name "list" p) [.Call (.Name "range" p2) [a] [] p3] [] pos) (Wt ta):=by
 intro pins s σ H Q I h;refine Call_ (gY I hL mL boot_list (XI ?_ hs2 rfl));refine Zq ?_;refine Call_ (gY I hR mR boot_range (XI (Bm (ha p3 pins s σ H _ I h) λus s1 vs H1 I1 r1 q1=>?_) hs rfl));obtain⟨n,e,hn,q⟩:=q1;subst e;cases r1 with
 | cons r rr =>
  cases rr
  obtain⟨t,rfl⟩:=r
  refine call_range_1 (aaw ?_)
  have rs:ab0 0 (n) 1=(n):=by rw[rangeSize_one];split<;>omega
  refine call_list_range hd (aeJ ..) (small_one (by omega) (by omega) (by omega) (by omega)) rs (by omega) λh' tk acc c' kp e it=>?_
  have I2:=I1.kept (t':=s1.toks+1+1) λb o e=>WB { cls:=YT "range",data:=Data.fields #[ZR 0 s1.toks,ZR (n) t,ZR 1 (s1.toks+1)]} e
  refine⟨.ref _,_,I2.laid (t':=tk) kp (WG _) (show aW X.prog X.w _ h' _ (.lst ((Xj n).map λi:Nat=>V.int (i))) from⟨?_,acc.toList,c',?_,by rw[e]⟩),rfl,q _ (I2.bA.fresh (WG _))⟩
  . rw[Wy,aaC];exact Xb hn (by decide)
  . rw[List.range_eq_range'];refine Af n 0 acc.toList (by exact it.1) λj v e=>?_;obtain⟨t,rfl⟩:=it.2 j v (by rw[<- e,ZK]);exact⟨t,by congr 1;omega⟩
theorem AA{K}: ∀ l:List Nat,ao K ρ H (l.map λi:Nat=>PV.int (0+(i))) (l.map λi:Nat=>V.int (i))
 | []=>by rw[Xc,Xc,ao]
 | i::l=>by exact az.mpr ⟨_,_,rfl,by rw[rel,abd],AA l⟩
def Vl(mr:MA):ME:=λc e h=>(mr c e h).bind λvs h1=>match vs with
 | [.int j]=>if 0<=j/\j<=100000 then .ok (.ref h1.length) (h1++[.lst (aH 0 j.toNat)]) else .no
 | _=> .no
theorem Ct(hL:Gl X "list")(hR:Gl X "range")(ha:JA X pg k [a] mr)(hs:Xp [a] X.env=[(false,Yu a X.env)]:=by rfl):JE X pg k (.Call (.Name "list" p) [.Call (.Name "range" p2) [a] [] p3] [] pos) (Vl mr):=⟨λA=>by
 obtain⟨_,q1,s1⟩:=ha.h A;refine⟨_,⟨BB hL (A.blt _ (by decide +kernel)) hR (A.blt _ (by decide +kernel)) A.room.hd q1.h hs rfl⟩,fun ρ h H e σ Q v h' s r q P=>?_⟩;obtain⟨vs,h1,e1,q⟩:=bind_eq.mp q;refine s1 ρ h H e σ _ vs h1 s r e1 λus ρ1 H1 g1 z1 r1=>?_;split at q
 . split at q
   . rename_i hj;cases q;obtain⟨u,rfl,r2⟩:=aP r1;subst r2;obtain⟨n,rfl⟩:=XX hj.1;refine⟨n,rfl,by omega,λl hl=>?_⟩;exact dj z1 (AA (Xj n)) (P.gr g1) l hl
   . nomatch q
 . nomatch q⟩
end
section
variable{c:CF}{e:aQ}{h:PH}{r:MA}
def Vw(vs:List PV)(h1:PH):RV PV:=match vs with
 | [.int j]=>if 0<=j/\j<=100000 then .ok (.ref h1.length) (h1++[.lst (aH 0 j.toNat)]) else .no
 | _=> .no
theorem Sf:Vl r c e h=(r c e h).bind Vw:=(rfl)
theorem Pj(hj:0<=j/\j<=100000):Vw [.int j] h= .ok (.ref h.length) (h++[.lst (aH 0 j.toNat)]):=if_pos hj
end
end P3
end
section
open PySem PySem.W PyProof.Rows
namespace L2
open PySem PySem.Spec PyProof.Rows
open PySem.AutoSeq1 (wpAny_loadPart')
theorem IY f (J:List Nat-> β ->WK->Prop) Q
  (step: ∀ i r b u,J (i::r) b u->W3 M A (f i b) (λz u'=>match z with
   | .yield b'=>J r b' u'
   | .done b'=>Q b' u') E u) (stop: ∀ b u,J [] b u->Q b u) (rg:Std.Legacy.Range) (b) (h:J (ael rg.start rg.size rg.step) b s):W3 M A (forIn rg b f) Q E s:=by
 rw[ac0];exact wpAny_forIn_list f J Q step stop _ b h
theorem CH l ak n di sl x (e:WC->Bool) (he: ∀ y,y∈ak->MeetsSeq.EqGives y x (e y)) j hj (h1:e ak[j]=true) (h0: ∀(m:Nat) hm,m < j->e ak[m]=false) :
  aei (Zx.«tuple.index» ⟨[.ref l,x],[]⟩) (λ_ R s=>s.heap.get? l=Wv { cls:= .type "tuple",dict:=di,data:= .seq ak n,slots:=sl}/\R (.ok (.ret (.int (j) s.toks))) { s with toks:=s.toks+1}) :=
 .of_wp λprog w A R u hu=>by
  obtain⟨hp,gg,dd,tk,os⟩:=u;obtain⟨hl,hr⟩:=hu
  wp_walk using wpAny_loadPart' hl,IY _ (λrest b u'=>b=(Wx,())/\u'=(⟨hp,gg,dd,tk,os⟩)/\ ∃ m,rest=ael m (ak.size - m)/\m<=j) _
  case step =>
   rintro i r b u' ⟨rfl,rfl,m,em,mj⟩
   have hm:m < ak.size:=by omega
   rw[show ak.size - m=(ak.size - (m+1))+1 by omega,List.range'_succ] at em
   obtain⟨rfl,rfl⟩:=List.cons.inj em
   have ei:=XR hm
   rw[ei]
   refine Ww (he ak[i] (Array.getElem_mem hm) prog w _ _ _ _ ?_)
   by_cases c:i=j
   . subst c;rw[h1]
     wp_walk
     exact⟨_,rfl,hr⟩
   . rw[h0 i hm (by omega)]
     wp_walk
     exact⟨rfl,rfl,i+1,rfl,by omega⟩
  case stop =>
   rintro b u' ⟨_,_,m,em,mj⟩
   have:=congrArg aed em
   rw[Xf,List.length_range'] at this
   omega
  case h=>exact⟨rfl,rfl,0,by simp[aeI],Xv _⟩
section
variable{X:Cx}
def Ij:V->List V->Hp->VK->Prop:=λx vs H Q=> ∃(l:W2)(ss:List Str)(a:Str),x= .ref l/\vs=[.str a]/\H l=Wv (.lst (ss.map V.str))/\a∈ss/\Q (.int (ss.idxOf a)) H
theorem places{a:Str}{t:Tok}{ak:List WC}{ss:List Str}(sa:aba ak ss)(ln:ak.length=ss.length)(ha:a∈ss) :
  ∃ hj:ss.idxOf a < ak.toArray.size,abc a ak.toArray[ss.idxOf a]=true/\ ∀(m:Nat)(hm:m < ak.toArray.size),m < ss.idxOf a->abc a ak.toArray[m]=false:=by
 have hj:=zH ha;refine⟨by rw[WZ,ln];exact hj,?_,λm hm hlt=>?_⟩
 . show abc a (ak[ss.idxOf a]'(by rw[ln];exact hj))=true;rw[lM sa _ _ hj,adB hj];exact beq_self_eq_true a
 . have hm':m < ss.length:=by rw[<- ln];simpa using hm
   show abc a (ak[m]'(by rw[ln];exact hm'))=false;have nf:=acu (p:=(· == a)) (xs:=ss) (i:=m) hlt
   rw[lM sa _ _ hm'];simpa using nf
theorem BW:Ur X "list.index" Ij:=by
 intro pins s σ H x vs v us Q I rx rv h;obtain⟨l,ss,a,rfl,rfl,hH,ha,q⟩:=h;cases rx;obtain⟨u,rfl,t,rfl⟩:=rv.one;obtain⟨z,ak,n,r,hl,e⟩:=I.CI hH;have sa:=gI r;have ln:ak.length=ss.length:=by rw[<- hl,Wy]
 obtain⟨hj,h1,h0⟩:=places (t:=t) sa ln ha;refine YV F.slot_list_index ⟨_,e,rfl⟩ F.entry_list_index (F.args_list_index_2 _ _)
  (MeetsSeq.list_index l ak.toArray n (.str a t) (abc a) (λy hy=>eq_isStrOf a t sa y (by simpa using hy)) (ss.idxOf a) hj (by have:=zH ha;have:WJ=16777216:=rfl;omega) h1 h0) ⟨e,?_⟩
 exact⟨.int (ss.idxOf a),H,I.tok _,⟨_,rfl⟩,q⟩
def Ib(K:Wz):V->List V->Hp->VK->Prop:=λx vs H Q=> ∃(l:W2)(ss:List Str)(a:Str),x= .ref l/\vs=[.str a]/\fw K H l (ss.map V.str)/\a∈ss/\Q (.int (ss.idxOf a)) H
theorem tD:Ur X "tuple.index" (Ib X.K):=by
 intro pins s σ H x vs v us Q I rx rv h;obtain⟨l,ss,a,rfl,rfl,hH,ha,q⟩:=h;cases rx;obtain⟨u,rfl,t,rfl⟩:=rv.one;obtain⟨ak,r,⟨o,e,ec,n,ed⟩,z⟩:=I.tuple hH;have sa:=gI r;have ln:ak.length=ss.length:=by rw[<- r.length,Wy]
 obtain⟨hj,h1,h0⟩:=places (t:=t) sa ln ha;obtain⟨oc,od,oa,os⟩:=o;cases ec;cases ed;refine YV F.slot_tuple_index ⟨_,e,rfl⟩ F.entry_tuple_index (F.args_tuple_index_2 _ _)
  (CH l ak.toArray n od os (.str a t) (abc a) (λy hy=>eq_isStrOf a t sa y (by simpa using hy)) (ss.idxOf a) hj h1 h0) ⟨e,?_⟩
 exact⟨.int (ss.idxOf a),H,I.tok _,⟨_,rfl⟩,q⟩
noncomputable def Wq(r:V->List V->Hp->VK->Prop)(to:TE)(t:TA):TE:=fun σ H Q=>to σ H λx H1=>(∃ p xs,x= .ref p/\H1 p=Wv (.tup xs))/\t σ H1 λxs H2=>r x xs H2 Q
variable{o e:XH}{to:TE}{t:TA}{name:Str}{apos cpos:Pos}{id:String}{r:V->List V->Hp->VK->Prop}
theorem S7(pa:adv "tuple")(slot:Slot "tuple" name id)(hty:typeOf (.builtin id)=pure (.type "method_descriptor"))(hm:KS X id r)(ho:PE X o to)(ha:PA X [e] t)
  (hbase:Zf o name X.env (Yu o X.env)=Yu o X.env) (hline:(apos.endLine == cpos.line)=true) (hs:Xp [e] X.env=[(false,Yu e X.env)]):PE X (.Call (.Attribute o name apos) [e] [] cpos) (Wq r to t):=by
 intro pins s σ H Q I h;refine ack hbase (by rw[hs];rfl) hline rfl (hV (ho pins s σ H _ I h) λv s1 x H1 I1 r1 ⟨⟨p,xs,ex,hp⟩,q1⟩=>?_);subst ex;cases r1;obtain⟨_,ak,_,ob,g1,g2,n,g3,g4⟩:=I1.bA p _ hp;refine⟨"tuple",id,pa,slot,hty,⟨ob,g1,g2⟩,λa e=>by cases e;exact⟨ob,g1,g4⟩,?_⟩;have hA:=ha cpos pins s1 σ H1 _ I1 q1;rw[hs] at hA ⊢;refine aaz rfl (aaV ?_);exact Bm hA λus s2 vs H2 I2 r2 q2=>hm pins s2 σ H2 (.ref p) vs (.ref p) us Q I2 rfl r2 q2
end
end L2
namespace P3
open PySem PySem.Spec PyProof.Rows L2
section
variable{X:Cx}{pg:Tb}{k:Nat}{d e:XH}{md:ME}{mr:MA}{apos cpos:Pos}
def iZ:PV->List PV->PH->RV PV:=λx vs h=>match x,vs with
 | .ref n,[.str a]=>(match h[n]? with
  | some (.lst xs)=>(match fu xs with
   | some ss=>if a∈ss then .ok (.int (ss.idxOf a)) h else .no
   | none=> .no)
  | _=> .no)
 | _,_=> .no
theorem Ek:cX X pg k-> ∃ r,KS X "list.index" r/\T6 X.K "list" r iZ bq:=λA=>⟨_,BW,fun ρ h H x x' s r e=>qj s r e,fun ρ h H x x' xs us Q v h' s rx rs q P=>by
 unfold iZ at q;split at q
 . rename_i n a;split at q
   . rename_i ys en;split at q
     . rename_i ss es;split at q
       . rename_i ha;cases q;obtain⟨b,vs,rfl,ea,e1,e2⟩:=s.lst en rx;obtain⟨u,rfl,r⟩:=aP rs;subst r;rw[fc es,b6] at e2;subst e2;exact⟨b,ss,a,rfl,rfl,e1,ha,P _ ρ H (.refl _ _) s (by rw[rel])⟩
       . nomatch q
     . nomatch q
   . nomatch q
 . nomatch q⟩
def BA(x:PV)(vs:List PV)(h:PH):RV PV:=match x,vs with
 | .tup xs,[.str a]=>(match fu xs with
  | some ss=>if a∈ss then .ok (.int (ss.idxOf a)) h else .no
  | none=> .no)
 | _,_=> .no
def yT(x:PV)(vs:List PV)(h:PH):RV PV:=match x,vs with
 | .ktup xs,[.str a]=>(match fu xs with
  | some ss=>if a∈ss then .ok (.int (ss.idxOf a)) h else .no
  | none=> .no)
 | _,_=> .no
def Jp(md:ME)(mr:MA):ME:=λc e h=>(md c e h).bind λx h1=>(mr c e h1).bind λvs h2=>BA x vs h2
theorem B1(ho:JE X pg k d md)(ha:JA X pg k [e] mr)(hbase:Zf d "index" X.env (Yu d X.env)=Yu d X.env:=by rfl)(hline:(apos.endLine == cpos.line)=true:=by rfl)(hs:noStar e=true:=by rfl) :
  JE X pg k (.Call (.Attribute d "index" apos) [e] [] cpos) (Jp md mr):=⟨λA=>by
 obtain⟨_,q0,s0⟩:=ho.h A;obtain⟨_,q1,s1⟩:=ha.h A;refine⟨_,⟨S7 abS abT abU tD q0.h q1.h hbase hline (bE hs)⟩,fun ρ h H e σ Q v h' z r q P=>?_⟩;obtain⟨x,h1,e1,q⟩:=bind_eq.mp q;obtain⟨xs,h2,e2,q⟩:=bind_eq.mp q;unfold BA at q;split at q
 . rename_i ys a _;split at q
   . rename_i ss es;split at q
     . rename_i hm;cases q;refine s0 ρ h H e σ _ _ _ z r e1 λx' ρ1 H1 g1 z1 r1=>?_;have r1':=r1;obtain⟨p,vs,rfl,hp,_⟩:=r1';refine⟨⟨p,vs,rfl,hp⟩,?_⟩;refine s1 ρ1 h1 H1 e σ _ _ _ z1 (r.gr g1) e2 λus ρ2 H2 g2 z2 r2=>?_;have r3:=rel.gr g2 _ _ r1;obtain⟨p',vs',ep,hp',rv⟩:=r3;cases ep;obtain⟨u,rfl,ru⟩:=aP r2;subst ru;rw[fc es,b6] at rv;subst rv;exact⟨p,ss,a,rfl,rfl,.of hp',hm,P.gr (g1.trans g2) _ ρ2 H2 (.refl _ _) z2 (by rw[rel])⟩
     . nomatch q
   . nomatch q
 . nomatch q⟩
def U3(v:PV)(mr:MA):ME:=λc e h=>(mr c e h).bind λvs h2=>yT v vs h2
theorem BU{p}(hc:pg.con x=Wv v)(hg:Gl X x)(ha:JA X pg k [e] mr)(hd:(x == ("__debug__"))=false:=by decide)(hbase:Zf (.Name x p) "index" X.env (Yu (.Name x p) X.env)=Yu (.Name x p) X.env:=by rfl)(hline:(apos.endLine == cpos.line)=true:=by rfl)(hs:noStar e=true:=by rfl) :
  JE X pg k (.Call (.Attribute (.Name x p) "index" apos) [e] [] cpos) (U3 v mr):=⟨λA=>by
 obtain⟨u,v',e1,e2,cn,e3⟩:=A.con x v hc;obtain⟨_,q1,s1⟩:=ha.h A;refine⟨_,KH abS abT abU tD (Aa hg e1 e2 hd) q1 hbase hline hs,fun ρ h H e σ Q w h' z r q P=>?_⟩;obtain⟨xs,h2,e2',q⟩:=bind_eq.mp q;unfold yT at q;split at q
 . rename_i ys a _;split at q
   . rename_i ss es;split at q
     . rename_i hm;cases q;have r0:=e3 ρ H;obtain⟨pa,vs,rfl,_,_⟩:=r0;obtain⟨o,o1,o2,o3⟩:=cn pa rfl;refine⟨.inr (.inl ⟨rfl,o,o1,o2,o3⟩),?_⟩;refine s1 ρ h H e σ _ _ _ z r e2' λus ρ2 H2 g2 z2 r2=>?_;obtain⟨p',vs',ep,sq,rv⟩:=rel.seq (x:= .ktup ys) rfl (e3 ρ2 H2);cases ep;obtain⟨u',rfl,ru⟩:=aP r2;subst ru;rw[fc es,b6] at rv;subst rv;exact⟨_,ss,a,rfl,rfl,sq,hm,P.gr g2 _ ρ2 H2 (.refl _ _) z2 (by rw[rel])⟩
     . nomatch q
   . nomatch q
 . nomatch q⟩
end
section
variable{c:CF}{e:aQ}{h:PH}{d:ME}{r:MA}{x v:PV}{ss:List Str}{a:Str}{n:Nat}
theorem Tn:U3 v r c e h=(r c e h).bind (yT v):=(rfl)
theorem MY(ha:a∈ss):yT (.ktup (ss.map PV.str)) [.str a] h= .ok (.int (ss.idxOf a)) h:=by
 unfold yT;simp only[dC,if_pos ha]
def S5(r:MA) c e x h1:=(r c e h1).bind (BA x)
theorem mh:Jp d r c e h=(d c e h).bind (S5 r c e):=(rfl)
theorem iL:S5 r c e x h=(r c e h).bind (BA x):=(rfl)
theorem iH(ha:a∈ss):BA (.tup (ss.map PV.str)) [.str a] h= .ok (.int (ss.idxOf a)) h:=by
 unfold BA;simp only[dC,if_pos ha]
theorem t7(e1:h[n]?=Wv (.lst (ss.map PV.str)))(ha:a∈ss):iZ (.ref n) [.str a] h= .ok (.int (ss.idxOf a)) h:=by
 unfold iZ;simp only[e1,dC,if_pos ha]
end
section
variable{X:Cx}{pg:Tb}{k:Nat}
def Ov:List V->Hp->VK->Prop:=λxs H Q=>(∃ b,xs=[.bl b]/\Q (.str (if b=true then WU "True" else WU "False")) H)\/(xs=[.non]/\Q (.str (WU "None")) H)
theorem Bz:aS X (.builtin "repr") Ov:=by
 intro pins s σ H xs us Q I r h;rcases h with⟨b,rfl,q⟩ | ⟨rfl,q⟩
 . obtain⟨u,rfl,ru⟩:=vals1 r;cases(show u=aaL b from ru);exact PySem.P.repr_of_bool ⟨.str _,H,I.tok _,⟨_,rfl⟩,q⟩
 . obtain⟨u,rfl,ru⟩:=vals1 r;cases(show u=YI from ru);exact PySem.P.repr_of_none ⟨.str _,H,I.tok _,⟨_,rfl⟩,q⟩
def BZ(d:ZP):=d.showable=true/\d.hasDict=false/\d.depth<=64/\d.shown.length<=WJ
instance (d:ZP):Decidable (BZ d):=by unfold BZ;infer_instance
def eG:List PV->PH->RV PV:=λxs h=>match xs with
 | [.bl b]=> .ok (.str (if b=true then WU "True" else WU "False")) h
 | [.non]=> .ok (.str (WU "None")) h
 | [.tup ys]=>(match dat 6 h (.tup ys) with
  | some d=>if BZ d then .ok (.str d.shown) h else .no
  | none=> .no)
 | [.ref n]=>(match dat 6 h (.ref n) with
  | some d=>if BZ d then .ok (.str d.shown) h else .no
  | none=> .no)
 | _=> .no
theorem Io:cX X pg k-> ∃ r,aS X (.builtin "repr") r/\AY X.K r eG:=λA=>⟨_,(F8 A.room.gd (by have:=A.room.un;omega)).or Bz,fun ρ h H xs us Q v h' s r q P=>by
 unfold eG at q;split at q
 . rename_i b;cases q;obtain⟨u,rfl,r1⟩:=aP r;subst r1;exact .inr (.inl ⟨b,rfl,P _ ρ H (.refl _ _) s (by rw[rel])⟩)
 . cases q;obtain⟨u,rfl,r1⟩:=aP r;subst r1;exact .inr (.inr ⟨rfl,P _ ρ H (.refl _ _) s (by rw[rel])⟩)
 . split at q
   . rename_i d e;split at q
     . rename_i c;cases q;obtain⟨u,rfl,r1⟩:=aP r;have dv:=dat.v s 6 _ _ _ e r1;have r2:=r1;obtain⟨a,vs,rfl,_,_⟩:=r2;exact .inl ⟨a,d,rfl,dv,c.1,c.2.1,c.2.2.1,c.2.2.2,P _ ρ H (.refl _ _) s (by rw[rel])⟩
     . nomatch q
   . nomatch q
 . split at q
   . rename_i d e;split at q
     . rename_i c;cases q;obtain⟨u,rfl,r1⟩:=aP r;have dv:=dat.v s 6 _ _ _ e r1;have r2:=r1;obtain⟨a,_,rfl⟩:=r2;exact .inl ⟨a,d,rfl,dv,c.1,c.2.1,c.2.2.1,c.2.2.2,P _ ρ H (.refl _ _) s (by rw[rel])⟩
     . nomatch q
   . nomatch q
 . nomatch q⟩
end
section
variable{P:Xy}{w:X0}{K:Wz}{mg:Str->Option WC}{pg:Tb}
theorem aT.on{st}(a:At K mg (WU f) st)(S:fU N ps (aD st))(hl:N.length=ps.length+n)
  (hb: ∀ kV doc pm an cdv ct us,us.length=ps.length->Z8 (Ym (WU f) (WU f) (df st) (bO st) (aD st) .none kV doc pm an cdv ct) ⟨us,[]⟩=pure (ps.zip us))
  (h:N.Nodup-> ∀ base fa cdv A outer s H E k,BR (lQ wZ P w K mg base N (WU f) (aD st) fa cdv A outer s H E).wq pg k (bO st) b):aT P w K mg pg f ⟨ps,n,b⟩ st N :=
 ⟨a,S,hl,hb,h S.nd⟩
end
def eI(i:Int):=eC (.int i)
def eS(x:Str):=eC (.str x)
def eX(i:Nat)(j:Int):=aj aB (aa i) (eI j)
def mQ a b:=aF (aj kb a b)
def a1 a:=ab a ah
def a2 a b:=ab a (a1 b)
def a3 a b d:=ab a (a2 b d)
section
variable{a b d:ME}{c:CF}{e:aQ}{h:PH}{i:Nat}{j:Int}{s:Str}{x y z v:PV}
theorem Gb:eI j c e h= .ok (.int j) h:=rfl
theorem Rh:eS s c e h= .ok (.str s) h:=rfl
def xk(o:Option (Option PV)) j h:=(Om o h).bind λx h1=>aB x (.int j) h1
theorem Sl:eX i j c e h=xk (e[i]?) j h:=rfl
theorem Rj:xk (Wv (Wv v)) j h=aB v (.int j) h:=rfl
def Ue x y h:=(kb x y h).bind vq
def VN(b:ME) c e x h:=(b c e h).bind (Ue x)
theorem SN:mQ a b c e h=(a c e h).bind (VN b c e):=by
 show((a c e h).bind _).bind vq=_;cases a c e h with
 | ok x h1 =>
  show((b c e h1).bind _).bind vq=(b c e h1).bind (Ue x)
  cases b c e h1<;>rfl
 | _=>rfl
theorem Mm:VN b c e x h=(b c e h).bind (Ue x):=rfl
theorem Lw:Ue x y h=(kb x y h).bind vq:=rfl
noncomputable def Wb(x:PV)(h:PH):RV (List PV):= .ok [x] h
theorem KR:a1 a c e h=(a c e h).bind Wb:=rfl
theorem C6:Wb x h= .ok [x] h:=rfl
noncomputable def Uo(x y:PV)(h:PH):RV (List PV):= .ok [x,y] h
def VS(b:ME) c e x h:=(b c e h).bind (Uo x)
theorem Lb:a2 a b c e h=(a c e h).bind (VS b c e):=by
 show(a c e h).bind _=_;cases a c e h with
 | ok x h1 =>
  show((b c e h1).bind _).bind _=(b c e h1).bind (Uo x)
  cases b c e h1<;>rfl
 | _=>rfl
theorem MB:VS b c e x h=(b c e h).bind (Uo x):=rfl
theorem P4:Uo x y h= .ok [x,y] h:=rfl
noncomputable def TY(x y z:PV)(h:PH):RV (List PV):= .ok [x,y,z] h
def T9(d:ME) c e x y h:=(d c e h).bind (TY x y)
def VD(b d:ME) c e x h:=(b c e h).bind (T9 d c e x)
theorem RE:a3 a b d c e h=(a c e h).bind (VD b d c e):=by
 show(a c e h).bind (NR (a2 b d) c e)=_;cases a c e h with
 | ok x h1 =>
  show(a2 b d c e h1).bind _=(b c e h1).bind (T9 d c e x)
  rw[Lb]
  cases b c e h1 with
  | ok y h2 =>
   show((d c e h2).bind _).bind _=(d c e h2).bind (TY x y)
   cases d c e h2<;>rfl
  | _=>rfl
 | _=>rfl
theorem Pq:VD b d c e x h=(b c e h).bind (T9 d c e x):=rfl
theorem Ot:T9 d c e x y h=(d c e h).bind (TY x y):=rfl
theorem L7:TY x y z h= .ok [x,y,z] h:=rfl
end
section
variable{X:Cx}{pg:Tb}{k:Nat}{body:List acC}{h₀ :ExceptHandler}{hs:List ExceptHandler}{pos:Pos}{m:MS}
theorem N2(nx: ∀ v s,¬ X.xe v s)(h:xI X body t):PS X (.Try body (h₀ ::hs) [] [] pos) t:=λpins s σ H D I hw =>
 wpAny_Try_except (XE (h pins s σ H D I hw) (λf s1 q=>by
  cases f with
  | next=>exact aag q
  | _=>exact q) λv s z=>(nx v s z).elim)
theorem OO(hb:BR X pg k body m):JS X pg k (.Try body (h₀ ::hs) [] [] pos) m:=⟨λA=>by obtain⟨t,q,s⟩:=hb.h A;exact⟨t,⟨N2 A.wq q.h⟩,s⟩⟩
end
section
variable{X:Cx}{pg:Tb}{k:Nat}{o i e:XH}{mo mi ma:ME}{pos pos':Pos}
def Tj(K:Wz):R2:=λx y H Q=> ∃ p xs n v,x= .ref p/\y= .int (Int.ofNat n)/\hW K H p xs/\xs[n]?=Wv v/\Q v H
theorem CW:RO X (Tj X.K):=by
 intro pins s σ H x y v u Q I rx ry h;obtain⟨p,xs,n,z,rfl,rfl,hq,he,q⟩:=h;cases rx;obtain⟨t,rfl⟩:=ry;obtain⟨ak,r,pl,hz⟩:=I.list hq;obtain⟨w,ew,rw'⟩:=r.get he;have hn:=kE;have lt:=(WA.mp he).1;exact wpAny_getItem_list pl.isList (Int.natCast_nonneg n) (by show(n:Int) < _;omega) (by simpa using ew) ⟨z,H,I,rw',q⟩
def Kb:PV->PV->PH->RV PV:=λx y h=>match x,y with
 | .ref n,.int (.ofNat i)=>(match h[n]? with
  | some (.lst xs)=>(match xs[i]? with | some v=> .ok v h | none=> .no)
  | _=> .no)
 | _,_=> .no
def B7(mo mi ma:ME):MS:=λc e h=>(mo c e h).bind λx h1=>(mi c e h1).bind λy h2=>(Kb x y h2).bind λu h3=>(ma c e h3).bind λv h4=>(ES u v h4).bind λz h5=>(dM x y z h5).bind λ_ h6=> .ok (.nx e) h6
theorem Hd(ho:JE X pg k o mo)(hi:JE X pg k i mi)(he:JE X pg k e ma)(ha: ∀ ov iv new,augStore i ov iv new=(do aau [new,ov,iv] (adD ov iv new);release [new,ov,iv] [];pure .next):=by intros;rfl):JS X pg k (.AugAssign (.Subscript o i pos') .Add e pos) (B7 mo mi ma):=⟨λA=>by
 obtain⟨_,q1,s1⟩:=ho.h A;obtain⟨_,q2,s2⟩:=hi.h A;obtain⟨_,q3,s3⟩:=he.h A;obtain⟨_,q4,s4⟩:=Ll A;refine⟨_,⟨JB q1.h q2.h CW q3.h LO q4 ha⟩,fun ρ h H e σ D f h' s r q P=>?_⟩;obtain⟨x,h1,e1,qa1⟩:=bind_eq.mp q;obtain⟨y,h2,e2,qa2⟩:=bind_eq.mp qa1;obtain⟨u,h3,e3,qa3⟩:=bind_eq.mp qa2;obtain⟨v,h4,e4,qa4⟩:=bind_eq.mp qa3;obtain⟨z,h5,e5,qa5⟩:=bind_eq.mp qa4;obtain⟨w,h6,e6,qa6⟩:=bind_eq.mp qa5;cases qa6
 clear qa1 qa2 qa3 qa4 qa5 q
 refine s1 ρ h H e σ _ x h1 s r e1 λx' ρ1 H1 g1 z1 r1=>?_;refine s2 ρ1 h1 H1 e σ _ y h2 z1 (r.gr g1) e2 λy' ρ2 H2 g2 z2 r2=>?_;have r1':=rel.gr g2 _ _ r1;unfold Kb at e3;split at e3
 . rename_i n j;split at e3
   . rename_i xs en;split at e3
     . rename_i u0 eu;cases e3;obtain⟨b,vs,rfl,ea,eb,ec⟩:=z2.lst en r1';obtain⟨u',eu',ru⟩:=ec.get eu;have r2':=r2;refine⟨b,vs,j,u',rfl,r2',.of eb,eu',?_⟩;refine s3 ρ2 h2 H2 _ σ _ v h4 z2 (r.gr (g1.trans g2)) e4 λv' ρ3 H3 g3 z3 r3=>?_;unfold ES at e5;split at e5
       . cases e5;subst ru r3;refine⟨_,_,rfl,rfl,?_⟩;have g:=(g1.trans g2).trans g3;exact s4 ρ3 h4 H3 _ _ _ _ y' _ w _ _ z3 (rel.gr g3 _ _ r1') (rel.gr g3 _ _ r2) (by rw[rel]) e6 fun ρ4 H4 g4 z4=>P σ ρ4 H4 (g.trans g4) z4 (r.gr (g.trans g4))
       . nomatch e5
     . nomatch e3
   . nomatch e3
 . nomatch e3⟩
end
section
variable{c:CF}{e:aQ}{h:PH}{mo mi ma:ME}{x y u v z:PV}{n i:Nat}{xs:List PV}
theorem QD(en:h[n]?=Wv (.lst xs))(ei:xs[i]?=Wv v):Kb (.ref n) (.int (i)) h= .ok v h:=by
 show(match h[n]? with | some (.lst xs)=>(match xs[i]? with | some v=>RV.ok v h | none=>RV.no) | _=>RV.no)=_;rw[en];show(match xs[i]? with | some v=>RV.ok v h | none=>RV.no)=_;rw[ei]
theorem OG{h1 h2 h3 h4 h5 h6:PH}(e1:mo c e h= .ok x h1)(e2:mi c e h1= .ok y h2)(e3:Kb x y h2= .ok u h3)(e4:ma c e h3= .ok v h4)(e5:ES u v h4= .ok z h5)(e6:dM x y z h5= .ok () h6):B7 mo mi ma c e h= .ok (.nx e) h6:=by
 simp only[B7,e1,e2,e3,e4,e5,e6,dc]
end
theorem tT{xs:List α}(h:XZ F xs ys): ∀{i:Nat}{x},xs[i]?=Wv x-> ∃ y,ys[i]?=Wv y/\F x y:=by
 induction h with
 | nil=>intro i x e;cases e
 | cons f _ ih =>
  intro i x e
  cases i with
  | zero=>cases e;exact⟨_,rfl,f⟩
  | succ i=>exact ih e
def VE(kvs:List (Key × V)):It:=⟨λi _=>i < kvs.length,λi H x H'=>H'=H/\ ∃ p,kvs[i]?=Wv p/\x=kV p.1,λi _=>kvs.length<=i⟩
theorem Tv(h:(aI P w).is k u=true):RelV (kV k) u:=by
 rcases bI h with⟨i,t,rfl,rfl⟩ | ⟨x,t,rfl,rfl⟩
 . exact⟨t,rfl⟩
 . exact⟨t,rfl⟩
theorem Hg{K}(h1:K.lookup a=Wv o)(h2:o.ExactDict/\o.data= .dict es ep/\aeH (aI P w) es/\Pairs (aI P w) es.toList vs/\(vs.map (·.1)).Nodup)(h7:KV kvs vs) :
  Turn P w K tg (VE kvs) [it] it (λi h=>h.IsKeyIter it a i vs.length ep) where
 mem:=by simp
 obj:=λi h st b hb=>by
  have e:b=it:=by simpa using hb
  subst e;obtain⟨o,e,c,d⟩:=st;exact⟨o,e,λv z=>by rw[d] at z;cases z⟩
 keep:=λi h h' st k=>st.at λo e=>k it (by simp) o e
 item:=by
  intro X hP hw hK hc i pins s σ H E I hf st hg;subst hP hw hK;have hd:s.heap.DictAt (aI X.prog X.w) a vs ep:=⟨o,es,I.kL a o h1,h2⟩
  obtain⟨p,hp⟩: ∃ p,kvs[i]?=Wv p:=⟨_,WD hg⟩
  obtain⟨q,hq,f⟩:=tT h7 hp;obtain⟨f0,f1,f2,f3,f4,f5⟩:=hf it (by simp);refine wpAny_pyNext_dict_item st hd (k:=q.1) (v:=q.2) hq λkey h' hk st' sb=>?_;have I1:=I.turned (t':=s.toks) (λb o hb e=>(sb.2 b hb).trans e) f0 f1 f3 f4 f5;obtain⟨o,e,c,d⟩:=id st';exact⟨key,rfl,vQ (s:={ s with heap:=h'}) e c d (by decide) ⟨kV p.1,H,I1,by rw[f.1];exact Tv hk,⟨rfl,p,hp,rfl⟩,st',λb hb=>(hf b hb).1⟩⟩
 done:=by
  intro X hP hw hK hc i pins s σ H E I hf st hg;subst hP hw hK;have hd:s.heap.DictAt (aI X.prog X.w) a vs ep:=⟨o,es,I.kL a o h1,h2⟩
  obtain⟨f0,f1,f2,f3,f4,f5⟩:=hf it (by simp);have hl:=Ze h7;have hg':kvs.length<=i:=hg;exact wpAny_pyNext_dict_end (I.ok.hd hc) st hd (X3.mpr (by omega)) λh' eb=>⟨rfl,I.turned (t':=s.toks) (λb o hb e=>eb b o hb e) f0 f1 f3 f4 f5⟩
 self:=λ_ _ _ _ _ st h=>wpAny_pyIter_keyiter st h
section
variable{X:Cx}{pg:Tb}{k:Nat}{tg o:XH}{a:W2}{kws:List (Key × V)}{kvs:List (Key × PV)}{x:Str}{p:Pos}
def QR(kvs:List (Key × V)):TI:=λ_ H R=>R (VE kvs) H
theorem Kq(hk:KD X.prog X.w X.K a kws)(ho:PE X o (tC (.ref a))):PI X tg o (QR kws):=by
 intro pins s σ H R I h;refine hV (ho pins s σ H (λx H1=>x= .ref a/\H1=H) I ⟨rfl,rfl⟩) λu s1 x H1 I1 rx ⟨ex,eH⟩=>?_;subst ex eH;obtain rfl:u=W6 a:=rx;obtain⟨ha,o,es,ep,vs,h1,h2,h3,h4,h5,h6,h7⟩:=hk;have hd:s1.heap.DictAt (aI X.prog X.w) a vs ep:=⟨o,es,I1.kL a o h1,h2,h3,h4,h5,h6⟩
 refine wpAny_pyIter_dict ha hd ?_;refine⟨s1.heap.objs.size,[s1.heap.objs.size],_,_,H1,rfl,I1.kept (t':=s1.toks) λc o e=>WB _ e,Hg h1 ⟨h2,h3,h4,h5,h6⟩ h7,⟨_,WS _ rfl,rfl,rfl⟩,λc hc=>?_,h⟩;have e:c=s1.heap.objs.size:=by simpa using hc
 subst e;exact I1.yy (WG _) (I1.bA.fresh (WG _))
noncomputable def kP:Key->PV
 | .inl i=> .int i
 | .inr x=> .str x
theorem Pw{K}:rel K ρ H (kP key) (kV key):=by
 cases key<;>(unfold kP kV;rw[rel])
def FN(kvs:List (Key × PV)):MI:=λ_ _ h=> .ok ⟨Wx,kvs.map λp=>kP p.1⟩ h
theorem HC(hd:pg.xG x=Wv kvs)(hg:Gl X x)(hdb:(x == ("__debug__"))=false:=by decide):JI X pg k tg (.Name x p) (FN kvs):=⟨λA=>by
 obtain⟨a,kws,e1,e2,e3⟩:=A.xG x kvs hd;refine⟨_,⟨Kq e2 (AB hg e1 hdb).h⟩,fun ρ h H e σ R it h' s r q P=>?_⟩;cases q;refine P ρ H _ (.refl _ _) s λi ρ3 h3 H3 g s3 _=>⟨λv ev=>?_,λei=>?_⟩
 . rw[WT] at ev;cases ez:kvs[i]? with
   | none=>rw[ez] at ev;cases ev
   | some pr =>
    rw[ez] at ev
    cases ev
    obtain⟨q,hq,f⟩:=tT (e3 ρ3 H3) ez
    refine⟨(WA.mp hq).1,?_⟩
    rintro v' H' ⟨rfl,q',hq',rfl⟩
    rw[hq] at hq'
    cases hq'
    exact⟨ρ3,.refl _ _,s3,by show rel _ _ _ (kP pr.1) _;rw[f.1];exact Pw⟩
 . have hl:=Ze (e3 ρ3 H3);have:i=kvs.length:=by simpa using ei
   show kws.length<=i;omega⟩
theorem AM:FN kvs c e h= .ok ⟨Wx,kvs.map λp=>kP p.1⟩ h:=rfl
end
abbrev Co(h:X8)(z TI TO T:W2)(b:Bool):Prop :=
 h.get? z=Wv { cls:= .type "zip",dict:=Wx,data:= .fields #[.int (T:Int) 0,.bool b,.bool false,.ref TI,.ref TO],slots:= #[]}
section
variable{prog:Xy}{w:X0}{A:Yk}{E:WC->WK->Prop}{s:WK}
theorem D4{M:Model}{a:W2}{Q:Option Obj->WK->Prop}(h:Q (s.heap.get? a) s):W3 M A (loadIfAlive a) Q E s:=fun Γ p _=>(Sem.wp_loadIfAlive ..).mpr h
theorem tS{z TI TO T:W2}{b:Bool}{oT:Obj}{Q:Bool->WK->Prop}(hz:Co s.heap z TI TO T b)(hT:s.heap.get? T=Wv oT)
  (q: ∀ h',Co h' z TI TO T true->aa9 z s.heap h'->Q false { s with heap:=h'}):W3 (W8 prog w) A (XY (.ref z)) Q E s:=by
 refine Ww (m:=aa7 (.ref z) 0) (XO hz rfl (x:= .int (T) 0) rfl ?_);refine Ww (D4 ?_);rw[XA,hT];refine Ww (XO hz rfl (x:= .bool b) rfl ?_);cases b with
 | false =>
  refine Qe (by decide) (Ww (YO hz (by simp) λh1 z1 b1=>WI ?_))
  exact q h1 z1 b1
 | true=>exact OR (by decide) (WI (q s.heap hz ⟨rfl,λ_ _=>rfl⟩))
theorem BI{z TI TO i1 i2 l1 l2 T:W2}{b:Bool}{oT:Obj}{k:Nat}{xs ys:Array WC}{x y:WC}{Q:WC->WK->Prop}(D:aad z TI TO i1 i2 l1 l2)(hz:Co s.heap z TI TO T b)(hT:s.heap.get? T=Wv oT)(hTI:aal s.heap TI (.ref i1) (.ref i2))
  (h1:s.heap.IsListIter i1 l1 k) (h2:s.heap.IsListIter i2 l2 k) (hl1:s.heap.IsList l1 xs) (hl2:s.heap.IsList l2 ys) (hx:xs[k]?=Wv x) (hy:ys[k]?=Wv y)
  (q: ∀ h',Co h' z TI TO T true->h'.IsListIter i1 l1 (k+1)->h'.IsListIter i2 l2 (k+1)->aal h' s.heap.objs.size x y->(∀ c o,c≠z->c≠i1->c≠i2->s.heap.get? c=Wv o->h'.get? c=Wv o)->Q (.ref s.heap.objs.size) { s with heap:=h'}):W3 (W8 prog w) A (Zx.«zip.__next__» ⟨[.ref z],[]⟩) (λr u=> ∃ v,r= .done (.ret v)/\Q v u) E s:=by
 refine Ww (m:=aa7 (.ref z) 2) (XO hz rfl (x:= .bool false) rfl ?_);refine Ww (m:=aa7 (.ref z) 3) (XO hz rfl (x:= .ref TI) rfl (Ww (Ya hTI rfl ?_)));refine Ww (m:=XY (.ref z)) (tS hz hT λu1 z1 b1=>OR (by decide) ?_);refine Ww ?_;rw[<- adC,Yr];refine Ww (Ww (XQ (Ww (m:=Xi (.ref i1)) (aaD (h1.extBut b1.extBut D.i1z) (hl1.extBut b1.extBut D.l1z) hx λu2 p1 b2=>WI ?_))));refine WI ?_;dsimp only;rw[Yr];refine Ww (Ww (XQ (Ww (m:=Xi (.ref i2)) (aaD ((h2.extBut b1.extBut D.i2z).extBut b2.extBut D.i12.symm) ((hl2.extBut b1.extBut D.l2z).extBut b2.extBut D.l2i1) hy λu3 p2 b3=>WI ?_))));refine WI ?_;refine WI ?_;refine Ww (acW ?_ (by show 2<=WJ;decide));have sz:=b3.1.trans (b2.1.trans b1.1);have up: ∀ c o,u3.get? c=Wv o->(u3.push { cls:= .type "tuple",data:= .seq #[x,y]}).get? c=Wv o:=λc o e=>WB _ e;refine WI ⟨_,rfl,show Q (.ref u3.objs.size) _ from ?_⟩;have T8:aal (u3.push { cls:= .type "tuple",data:= .seq #[x,y]}) u3.objs.size x y:=WS _ rfl;rw[sz] at T8;rw[sz];exact q _ (up _ _ (b3.extBut _ _ D.i2z.symm (b2.extBut _ _ D.i1z.symm z1))) ((p1.extBut b3.extBut D.i12).at λo e=>up _ o e) (p2.at λo e=>up _ o e) T8 λc o n1 n2 n3 e=>up c o (b3.extBut _ _ n3 (b2.extBut _ _ n2 (b1.extBut _ _ n1 e)))
theorem Em{z TI TO i1 i2 l1 l2 T:W2}{b:Bool}{oT:Obj}{k:Nat}{xs ys:Array WC}{Q:aeC->WK->Prop}(hh:A.handled=Wx)(D:aad z TI TO i1 i2 l1 l2)(hz:Co s.heap z TI TO T b)(hT:s.heap.get? T=Wv oT)(hTI:aal s.heap TI (.ref i1) (.ref i2))
  (h1:s.heap.IsListIter i1 l1 k) (h2:s.heap.IsListIter i2 l2 k) (hl1:s.heap.IsList l1 xs) (hl2:s.heap.IsList l2 ys) (he:xs[k]?=Wx\/ys[k]?=Wx)
  (q: ∀ h' e,(∀ c o,c≠z->c≠i1->c≠i2->s.heap.get? c=Wv o->h'.get? c=Wv o)->(∃ o,h'.get? e=Wv o/\o.cls= .type "StopIteration")->E (.ref e) { s with heap:=h'}):W3 (W8 prog w) A (Zx.«zip.__next__» ⟨[.ref z],[]⟩) Q E s:=by
 refine Ww (m:=aa7 (.ref z) 2) (XO hz rfl (x:= .bool false) rfl ?_);refine Ww (m:=aa7 (.ref z) 3) (XO hz rfl (x:= .ref TI) rfl (Ww (Ya hTI rfl ?_)));refine Ww (m:=XY (.ref z)) (tS hz hT λu1 z1 b1=>OR (by decide) ?_);refine Ww ?_;rw[<- adC,Yr]
 match hx:xs[k]? with
 | none =>
  refine Ww (Ww (XQ (Ww (m:=Xi (.ref i1)) (acH hh (h1.extBut b1.extBut D.i1z) (hl1.extBut b1.extBut D.l1z) hx λu2 e b2 g=>?_))))
  exact q u2 e (λc o n1 n2 _ y=>b2 _ _ n2 (b1.extBut _ _ n1 y)) g
 | some x =>
  have hy:=he.resolve_left (by rw[hx];intro y;cases y)
  refine Ww (Ww (XQ (Ww (m:=Xi (.ref i1)) (aaD (h1.extBut b1.extBut D.i1z) (hl1.extBut b1.extBut D.l1z) hx λu2 p1 b2=>WI ?_))))
  refine WI ?_
  dsimp only
  rw[Yr]
  refine Ww (Ww (XQ (Ww (m:=Xi (.ref i2)) (acH hh ((h2.extBut b1.extBut D.i2z).extBut b2.extBut D.i12.symm) ((hl2.extBut b1.extBut D.l2z).extBut b2.extBut D.l2i1) hy λu3 e b3 g=>?_))))
  exact q u3 e (λc o n1 n2 n3 y=>b3 _ _ n3 (b2.extBut _ _ n2 (b1.extBut _ _ n1 y))) g
structure rE(h:X8)(z TI TO i1 i2 l1 l2:W2)(k:Nat)(xs ys:Array WC):Prop where
 st:(∃ a b,aek h z TI TO .none/\aal h TO a b)\/ ∃ T b o,Co h z TI TO T b/\h.get? T=Wv o/\T≠z/\T≠i1/\T≠i2/\T≠TO
 ak:aal h TI (.ref i1) (.ref i2)
 one:h.IsListIter i1 l1 k
 two:h.IsListIter i2 l2 k
 l1:h.IsList l1 xs
 l2:h.IsList l2 ys
theorem rE.ty{TI TO l1 l2}(Z:rE s.heap z TI TO i1 i2 l1 l2 k xs ys):s.TypeIs (.ref z) "zip" :=by
 rcases Z.st with⟨a,b,e,_⟩ | ⟨T,b,o,e,_⟩
 . exact⟨_,e,rfl⟩
 . exact⟨_,e,rfl⟩
theorem Ce{z TI TO i1 i2 l1 l2:W2}{k:Nat}{xs ys:Array WC}{x y:WC}{Q:Option WC->WK->Prop}(D:aad z TI TO i1 i2 l1 l2)(Z:rE s.heap z TI TO i1 i2 l1 l2 k xs ys)(hx:xs[k]?=Wv x)(hy:ys[k]?=Wv y)
  (q: ∀ h',rE h' z TI TO i1 i2 l1 l2 (k+1) xs ys->aal h' s.heap.objs.size x y->(∀ c o,c≠z->c≠TO->c≠i1->c≠i2->s.heap.get? c=Wv o->h'.get? c=Wv o)->Q (Wv (.ref s.heap.objs.size)) { s with heap:=h'}):W3 (W8 prog w) A (acL (.ref z)) Q E s:=by
 have ty:=Z.ty;obtain⟨st,hTI,h1,h2,hl1,hl2⟩:=Z;have lt: ∀{a:W2}{v:Obj},s.heap.get? a=Wv v->s.heap.objs.size≠a:=λy=>Yq (WN y);have n1:s.heap.objs.size≠i1:=by obtain⟨_,e,_⟩:=h1;exact lt e
 have n2:s.heap.objs.size≠i2:=by obtain⟨_,e,_⟩:=h2;exact lt e
 rcases st with⟨a,b,hz,hTO⟩ | ⟨T,b,o,hz,hT,t1,t2,t3,t4⟩
 . refine wpAny_pyNext_zip_item D hz hTI hTO h1 h2 hl1 hl2 hx hy λh' a1 a2 a3 a4 a5 a6 hk=>q h' ⟨.inr ⟨_,false,_,a1,a5,lt hz,n1,n2,lt hTO⟩,hk _ _ D.TIz D.TITO D.TIi1 D.TIi2 hTI,a3,a4,hl1.at λo e=>hk _ o D.l1z D.l1TO D.l1i1 D.l1i2 e,hl2.at λo e=>hk _ o D.l2z D.l2TO D.l2i1 D.l2i2 e⟩ a5 hk
 . exact Ww (abR (XU (name:=WU "__next__") ty X7 (Yd X7 ty Zy (BI D hz hT hTI h1 h2 hl1 hl2 hx hy λh' a1 a3 a4 a5 hk=>WI
    (q h' ⟨.inr ⟨_,true,_,a1,hk _ _ t1 t2 t3 hT,t1,t2,t3,t4⟩,hk _ _ D.TIz D.TIi1 D.TIi2 hTI,a3,a4,hl1.at λo e=>hk _ o D.l1z D.l1i1 D.l1i2 e,hl2.at λo e=>hk _ o D.l2z D.l2i1 D.l2i2 e⟩ a5 λc o n1 _ n3 n4 e=>hk c o n1 n3 n4 e)) (Zm (.ref z)))))
theorem vC{z TI TO i1 i2 l1 l2:W2}{k:Nat}{xs ys:Array WC}{Q:Option WC->WK->Prop}(hh:A.handled=Wx)(D:aad z TI TO i1 i2 l1 l2)(Z:rE s.heap z TI TO i1 i2 l1 l2 k xs ys)(he:xs[k]?=Wx\/ys[k]?=Wx)
  (q: ∀ h',(∀ c o,c≠z->c≠TO->c≠i1->c≠i2->s.heap.get? c=Wv o->h'.get? c=Wv o)->Q Wx { s with heap:=h'}):W3 (W8 prog w) A (acL (.ref z)) Q E s:=by
 have ty:=Z.ty;obtain⟨st,hTI,h1,h2,hl1,hl2⟩:=Z;rcases st with⟨a,b,hz,hTO⟩ | ⟨T,b,o,hz,hT,t1,t2,t3,t4⟩
 . exact wpAny_pyNext_zip_end hh D hz hTI hTO h1 h2 hl1 hl2 he q
 . exact Ww (abR (XU (name:=WU "__next__") ty X7 (Yd X7 ty Zy (Em (A:=A.in1) hh D hz hT hTI h1 h2 hl1 hl2 he λh' e a1 g =>
    by obtain⟨o,g1,g2⟩:=g;exact Ww (ab9 (T:= "StopIteration") (b:=true) ⟨o,g1,g2⟩ isSubtype_stop (WI (q h' λc o n1 _ n3 n4 e=>a1 c o n1 n3 n4 e)))) (Zm (.ref z)))))
theorem rE.kept{TI TO l1 l2}(Z:rE h z TI TO i1 i2 l1 l2 k xs ys)(ns:S≠z/\S≠TI/\S≠TO/\S≠i1/\S≠i2/\S≠l1/\S≠l2)(kp: ∀ b o,b≠S->h.get? b=Wv o->h'.get? b=Wv o)
  (al: ∀ T o,h.get? T=Wv o-> ∃ o',h'.get? T=Wv o'):rE h' z TI TO i1 i2 l1 l2 k xs ys:=by
 obtain⟨n1,n2,n3,n4,n5,n6,n7⟩:=ns;obtain⟨st,hTI,h1,h2,hl1,hl2⟩:=Z;refine⟨?_,kp _ _ n2.symm hTI,h1.at λo e=>kp _ o n4.symm e,h2.at λo e=>kp _ o n5.symm e,hl1.at λo e=>kp _ o n6.symm e,hl2.at λo e=>kp _ o n7.symm e⟩;rcases st with⟨a,b,hz,hTO⟩ | ⟨T,b,o,hz,hT,t⟩
 . exact .inl ⟨a,b,kp _ _ n1.symm hz,kp _ _ n3.symm hTO⟩
 . obtain⟨o',e⟩:=al T o hT;exact .inr ⟨T,b,o',kp _ _ n1.symm hz,e,t⟩
end
def zL:List V->List V->List V->Hp->(List V->Hp->Prop)->Prop
 | x::xs,y::ys,acc,H,Q=> ∀ p,H p=Wx->zL xs ys (acc++[.ref p]) (upd H p (.tup [x,y])) Q
 | [],_,acc,H,Q=>Q acc H
 | _::_,[],acc,H,Q=>Q acc H
theorem Rq(h:iD X pins H b)(ne:b≠p):iD X pins (upd H p o) b:=⟨by rw[ax ne];exact h.1,h.2⟩
theorem tL: ∀{xs us x u},Vals xs us->RelV x u->Vals (xs++[x]) (us++[u])
 | _,_,_,_,.nil,r=> .cons r .nil
 | _,_,_,_,.cons a t,r=> .cons a (tL t r)
theorem KA{A:Yk}(h:W3 M A.in1 b Q E s):W3 M (A.under (.builtin "list.extend.loop" args)) b Q E s:=by
 rw[aaX F.plain_extend_loop args];exact h
theorem Er{X:Cx}{pins:List (W2 × Obj)}{σ :L2.St}{z TI TO i1 i2 l1 l2 S:W2}{xs ys:List V}{us ws:List WC}{res:WC}{R:Result->WK->Prop}{Qf:List V->Hp->Prop}{A:Yk}(hh:A.in1.handled=Wx)(D:aad z TI TO i1 i2 l1 l2)
  (nS:S≠z/\S≠TI/\S≠TO/\S≠i1/\S≠i2/\S≠l1/\S≠l2) (ru:Vals xs us) (rw':Vals ys ws) (hz:us.length<=WJ)
  (hR: ∀(s':WK)(H':Hp)(acc':List V)(ia:Array WC)(c':Nat),Inv X pins σ H' s'->iD X pins H' S->s'.heap.get? S=Wv { cls:= .type "list",dict:=Wx,data:= .seq ia c',slots:= #[]}->Vals acc' ia.toList->acc'.length<=WJ->Qf acc' H'->R (.ok (.ret res)) s') :
  ∀(n k:Nat)(s:WK)(H:Hp)(acc:List V)(ia:Array WC)(c:Nat),us.length - k=n->acc.length=k->k<=us.length->Inv X pins σ H s->TO < s.heap.objs.size->(∀ b∈[z,TO,i1,i2,S],iD X pins H b)->rE s.heap z TI TO i1 i2 l1 l2 k us.toArray ws.toArray ->
   s.heap.get? S=Wv { cls:= .type "list",dict:=Wx,data:= .seq ia c,slots:= #[]}->Vals acc ia.toList->zL (xs.drop k) (ys.drop k) acc H Qf ->
   aaR (W8 X.prog X.w) A (.builtin "list.extend.loop" ⟨[.ref S,.ref z,res],[]⟩) R s:=by
 have lu:=ru.length;have lw:=rw'.length;intro n
 induction n with
 | zero =>
  intro k s H acc ia c hn hk hl I hTO fp Z hS rv q
  have hd:xs.drop k=[]:=Ye (by omega)
  rw[hd] at q
  refine ZD F.entry_extend_loop (KA ?_)
  refine Ww (vC hh D Z (.inl (by simp;omega)) λh1 kp=>WI ?_)
  have I1:Inv X pins σ H { s with heap:=h1,toks:=s.toks}:=qu (turned:=[z,TO,i1,i2]) I (λb o nb e=>by simp only[WM,W4,or_false,not_or] at nb;exact kp b o nb.1 nb.2.1 nb.2.2.1 nb.2.2.2 e) λb hb=>fp b (by simp only[WM,W4,or_false] at hb ⊢; rcases hb with rfl | rfl | rfl | rfl<;>simp)
  exact hR _ H acc ia c I1 (fp S (by simp)) (kp S _ nS.1 nS.2.2.1 nS.2.2.2.1 nS.2.2.2.2.1 hS) rv (by omega) (by rw[zL] at q;exact q)
 | succ n ih =>
  intro k s H acc ia c hn hk hl I hTO fp Z hS rv q
  have hsz:ia.size=k:=by rw[<- YF,<- rv.length,hk]
  refine ZD F.entry_extend_loop (KA ?_)
  by_cases hw:k < ws.length
  . have hx:k < xs.length:=by omega
    have hy:k < ys.length:=by omega
    obtain⟨ux,eu,rx⟩:=ru.get (WD hx);obtain⟨uy,ew,ry⟩:=rw'.get (WD hy);rw[Yh hx,Yh hy,zL] at q;refine Ww (Ce D Z (by simpa using eu) (by simpa using ew) λh1 Z1 P1 kp=>?_);have hp:=I.bA.fresh (WG _);have I1:Inv X pins σ (upd H s.heap.objs.size (.tup [xs[k],ys[k]])) { s with heap:=h1,toks:=s.toks}:=by
     refine mU (turned:=[z,TO,i1,i2]) I (λb o nb e=>?_) (λb hb=>fp b ?_) (WG _) ?_
     . simp only[WM,W4,or_false,not_or] at nb;exact kp b o nb.1 nb.2.1 nb.2.2.1 nb.2.2.2 e
     . simp only[WM,W4,or_false] at hb ⊢;rcases hb with rfl | rfl | rfl | rfl<;>simp
     . exact⟨by show 2<=WJ;decide,[ux,uy],.cons rx (.cons ry .nil),_,P1,rfl,_,rfl,rfl⟩
    have hS1:=kp S _ nS.1 nS.2.2.1 nS.2.2.2.1 nS.2.2.2.2.1 hS;have lS:=WN hS;have old: ∀ b∈[z,TO,i1,i2,S],b < s.heap.objs.size:=λb hb=>by
     rcases(by simpa using hb) with rfl | rfl | rfl | rfl | rfl
     . obtain⟨o,e,_⟩:=Z.ty;exact WN e
     . exact hTO
     . obtain⟨o,e,_⟩:=Z.one;exact WN e
     . obtain⟨o,e,_⟩:=Z.two;exact WN e
     . exact lS
    have fp1: ∀ b∈[z,TO,i1,i2,S],iD X pins (upd H s.heap.objs.size (.tup [xs[k],ys[k]])) b:=λb hb=>by
     refine Rq (fp b hb) λe=>absurd (old b hb) (by rw[e];exact Xt _)
    show W3 _ A.in1 (ad9 S (·.push (.ref s.heap.objs.size)) >>= _) _ _ _
    refine Ww ?_;have oth: ∀ b o,b≠S->h1.get? b=Wv o->(h1.update S (X4 (·.push (.ref s.heap.objs.size)))).get? b=Wv o:=λb o hb e=>(Yz _ _ (Za hb)).trans e
    have hS2:(h1.update S (X4 (·.push (.ref s.heap.objs.size)))).get? S=Wv _:=YH _ hS1 rfl
    have I2:Inv X pins σ (upd H s.heap.objs.size (.tup [xs[k],ys[k]])) { s with heap:=h1.update S (X4 (·.push (.ref s.heap.objs.size))),toks:=s.toks} :=
     qu (s:={ s with heap:=h1,toks:=s.toks}) (turned:=[S]) I1 (λb o nb e=>oth b o (by simpa using nb) e) λb hb=>fp1 b (by simp only[WM,W4,or_false] at hb ⊢; simp[hb])
    refine aa3 hS1 rfl (WI ⟨abN F.plain_extend_loop _,?_⟩) (by rw[hsz];omega) (by show(ia.push _).size<=WJ+1;rw[Array.size_push,hsz];omega);have hTO2:TO < (h1.update S (X4 (·.push (.ref s.heap.objs.size)))).objs.size:=by
     have:=WN P1;rw[aaO];exact ZT hTO this
    refine ih (k+1) _ _ (acc++[.ref s.heap.objs.size]) (ia.push (.ref s.heap.objs.size)) _ (by omega) (by simp[hk]) (by omega) I2 hTO2 fp1 (Z1.kept nS oth λT o e=>?_) hS2 (by rw[adM];exact tL rv rfl) (q _ hp);by_cases e':T=S
    . subst e';exact⟨_,hS2⟩
    . exact⟨_,oth T o e' e⟩
  . have hd:ys.drop k=[]:=Ye (by omega);have hx:k < xs.length:=by omega
    rw[Yh hx,hd,zL] at q;refine Ww (vC hh D Z (.inr (by simp;omega)) λh1 kp=>WI ?_);have I1:Inv X pins σ H { s with heap:=h1,toks:=s.toks}:=qu (turned:=[z,TO,i1,i2]) I (λb o nb e=>by simp only[WM,W4,or_false,not_or] at nb;exact kp b o nb.1 nb.2.1 nb.2.2.1 nb.2.2.2 e) λb hb=>fp b (by simp only[WM,W4,or_false] at hb ⊢; rcases hb with rfl | rfl | rfl | rfl<;>simp);exact hR _ H acc ia c I1 (fp S (by simp)) (kp S _ nS.1 nS.2.2.1 nS.2.2.2.1 nS.2.2.2.2.1 hS) rv (by omega) q
section
variable{X:Cx}{pins:List (W2 × Obj)}{σ :L2.St}{H:Hp}{s:WK}
theorem LU(I:Inv X pins σ H s)(fS:iD X pins H S)(new:aW X.prog X.w (upd H S o) s.heap S o):Inv X pins σ (upd H S o) s:=by
 have hn:=fS.1;refine I.step (h':=s.heap) (H':=upd H S o) (g':=s.gens) (t':=s.toks) (d':=s.drawn) (ch:=[S]) (λb m=>?_) (λb o' _ _ n e _=>e) (λb o' _ _ n e _=>⟨o'.slots,e⟩) (λb o' n e h=>by rw[ax (by simpa using n)];exact h) (λb o' n e=>⟨o',e⟩)
  (λb xs e=>by rw[ax (av e hn)];exact e) (λb o u e=>by rw[ax (av e hn)];exact e) (λb ps e=>⟨#[],by rw[ax (av e hn),e];simp⟩) (λm hm=>hm) (λb u e=>?_) I.bare
 . obtain rfl:b=S:=by simpa using m
   obtain⟨_,a2,_,a4,a5,a6⟩:=fS;exact⟨a4,a2,a5,a6⟩
 . by_cases hb:b=S
   . subst hb;rw[aX] at e;cases e;exact new
   . rw[ax hb] at e;exact(I.bA b u e).rV (λc v hc q=>q) (λc q=>by rw[ax (av q hn)];exact q) λc xs q=>by rw[ax (av q hn)];exact q
theorem yH:ach (.type "zip") "__len__" =pure Wx:=by rw[typeLookup_type,builtinLookup_eq_fast];kernel_rfl
theorem vK:ach (.type "zip") "__length_hint__" =pure Wx:=by rw[typeLookup_type];kernel_rfl
theorem BD{TI TO}(nz:S≠z)(hz:aek s.heap z TI TO .none)(e:s.heap.get? S=Wv { cls:= .type "list",dict:=Wx,data:= .seq #[] c,slots:= #[]})
  (q: ∀ h' c',(∀ b o,b≠S->s.heap.get? b=Wv o->h'.get? b=Wv o)->h'.get? S=Wv { cls:= .type "list",dict:=Wx,data:= .seq #[] c',slots:= #[]}->aaR (W8 prog w) A (.builtin "list.extend.loop" ⟨[.ref S,.ref z,res],[]⟩) R { s with heap:=h'}) :
  W3 (W8 prog w) A.in1 (ZL (.ref S) (.ref z) res) (λfin u=>match fin with | .done f=>R (.ok f) u | .again d=>d.quiet=true/\aaR (W8 prog w) A d R u) (λx u=>R (.error x) u) s:=by
 have ty:s.TypeIs (.ref z) "zip" :=⟨_,hz,rfl⟩
 have no: ¬ ((abV (.ref S) (.ref z)||YT "zip" == YT "list" ||YT "zip" == YT "tuple")=true):=by simp[abV,nz]
 have e1:=YH (X4 (·.push YI)) e rfl
 have e2:=YH (X4 (·.pop)) e1 rfl
 have up: ∀ b o,b≠S->s.heap.get? b=Wv o->((s.heap.update S (X4 (·.push YI))).update S (X4 (·.pop))).get? b=Wv o:=λb o n y=>by rw[Yz _ _ n.symm,Yz _ _ n.symm,y]
 have hint: ∀{Q:Bool->WK->Prop}{E:WC->WK->Prop},Q true s->W3 (W8 prog w) A.in1 (abe (.ref z)) Q E s:=λg =>
  Ww (aai ty yH (Ww (m:=specialOf (W6 z) (WU "__length_hint__")) (aai ty vK (WI g))))
 exact Ww (m:=typeOf (.ref z)) (Zt ty (OR no (Ww (m:=adp (.ref z)) (acd hz (Ww (m:=aau [.ref z] (abe (.ref z))) (XQ (hint (Qe (by rfl) (Ww (m:=rule _) (abm
  (Ww (m:=ad9 S (·.push .none) >>= λ_=>ad9 S (·.pop)) (Ww (aa3 e rfl (aa3 (hz:=by seq_fits) e1 rfl (WI ⟨abN F.plain_extend_loop _,q _ _ up e2⟩)))))))))))))))
theorem zc(e:s.heap.get? S=Wv { cls:= .type "list",data:= .seq #[]})
  (q: ∀ h' c,(∀ b o,b≠S->s.heap.get? b=Wv o->h'.get? b=Wv o)->h'.get? S=Wv { cls:= .type "list",dict:=Wx,data:= .seq #[] c,slots:= #[]}->W3 (W8 prog w) A (ZL (.ref S) v .none) R E { s with heap:=h'}) :
  W3 (W8 prog w) A (Zx.«list.__init__» ⟨[.ref S,v],[]⟩) R E s :=
 have e1:=YH (X4 (λ_=>(#[]))) e rfl
 Ww (m:=seqItems? (.ref S) >>= _) (Ww (Ya e rfl (WI (Ww (m:=ad9 S λ_=> #[]) (aa3 e rfl (Ww (m:=letGo []) (acY (q _ _ (λb o n y=>(Yz _ _ n.symm).trans y) e1))))))))
theorem EX{z TI TO i1 i2 l1 l2:W2}{xs ys:List V}{us ws:List WC}{Q:VK}(I:Inv X pins σ H s)(hc:X.calm=true)(D:aad z TI TO i1 i2 l1 l2)(Z:rE s.heap z TI TO i1 i2 l1 l2 0 us.toArray ws.toArray)(hf:aek s.heap z TI TO .none)(hTO:TO < s.heap.objs.size)
  (fp: ∀ b∈[z,TO,i1,i2],iD X pins H b) (ru:Vals xs us) (rw':Vals ys ws) (hz:us.length<=WJ) (q:zL xs ys [] H λrs H1=> ∀ l,H1 l=Wx->Q (.ref l) (upd H1 l (.lst rs))):W3 (W8 X.prog X.w) X.A (call (.type "list") [.ref z]) (EP X pins σ Q) X.xe s:=by
 obtain⟨S,eS⟩: ∃ S,S=s.heap.objs.size:=⟨_,rfl⟩
 have far: ∀{a:W2}{o:Obj},s.heap.get? a=Wv o->S≠a:=λy=>by rw[eS];exact Yq (WN y)
 have nS:S≠z/\S≠TI/\S≠TO/\S≠i1/\S≠i2/\S≠l1/\S≠l2 :=
  ⟨far hf,far Z.ak,by rw[eS];exact Yq hTO,let ⟨_,y,_⟩:=Z.one;far y,let ⟨_,y,_⟩:=Z.two;far y,let ⟨_,y,_⟩:=Z.l1;far y,let ⟨_,y,_⟩:=Z.l2;far y⟩
 let h0:=s.heap.push { cls:= .type "list",data:= .seq #[]}
 have e0:h0.get? S=Wv { cls:= .type "list",data:= .seq #[]}:=by rw[eS];exact WS _ rfl
 have old: ∀ b o,s.heap.get? b=Wv o->h0.get? b=Wv o:=λb o y=>WB _ y;refine acQ (Q₁ :=λv u=>v= .ref S/\u={ s with heap:=h0}) F.called_list (F.typeCall_list_1 _) F.entry_list_init (code_list_new _ ⟨by rw[eS],rfl⟩) ?_;rintro _ _ ⟨rfl,rfl⟩;refine⟨⟨_,e0,rfl⟩,F.args_list_init_2 _ _,zc (s:={ s with heap:=h0}) e0 λh1 c1 k1 e1=>BD (s:={ s with heap:=h1}) (A:=X.A.in1) nS.1 (k1 _ _ nS.1.symm (old _ _ hf)) e1 λh2 c2 k2 e2=>?_⟩;have k:=λb o y=>k2 b o (far y).symm (k1 b o (far y).symm (old b o y));have fS:iD X pins H S:=by rw[eS];exact I.yy (WG _) (I.bA.fresh (WG _))
 refine Er (A:=X.A.in1) (S:=S) (I.ok.hd hc) D nS ru rw' hz ?_ us.length 0 _ H [] _ _ rfl rfl (Xv _) (I.kept (t':=s.toks) k) ?_ (λb hb=>?_) (Z.kept (S:=S) nS (λb o _ y=>k b o y) λT o y=>⟨o,k T o y⟩) e2 .nil q
 . intro u H' acc ia c I1 f1 e rv hl Q';exact⟨rfl,.ref S,_,LU I1 f1 (show aW X.prog X.w _ _ _ (.lst acc) from⟨hl,ia.toList,c,rv,e⟩),rfl,Q' _ f1.1⟩
 . exact ZT hTO (by rw[<- eS];exact WN e2)
 . rw[show[z,TO,i1,i2,S]=[z,TO,i1,i2]++[S] from rfl,XJ] at hb;rcases hb with m | m
   . exact fp b m
   . rw[Xq.mp m];exact fS
end
section
variable{X:Cx}{pg:Tb}{k:Nat}{a b:XH}{ma mb:ME}{p p2 pos pos2:Pos}
def Wc(K:Wz)(ta:TA):TE:=fun σ H Q=>ta σ H λvs H1=> ∃ a1 a2 xs ys,vs=[.ref a1,.ref a2]/\hW K H1 a1 xs/\hW K H1 a2 ys/\zL xs ys [] H1 λrs H2=> ∀ l,H2 l=Wx->Q (.ref l) (upd H2 l (.lst rs))
theorem II(hc:X.calm=true)(hl:Gl X "list")(hml:X.mg "list" =Wx)(hg:Gl X "zip")(hm:X.mg "zip" =Wx)(ha:PA X [a,b] ta)(hs:Xp [a,b] X.env=[(false,Yu a X.env),(false,Yu b X.env)])(hs2:Xp [b] X.env=[(false,Yu b X.env)]) :
  PE X (.Call (.Name "list" p) [.Call (.Name "zip" p2) [a,b] [] pos2] [] pos) (Wc X.K ta):=by
 intro pins s σ H Q I h;refine Zr (gY I hl hml boot_list (XI ?_ rfl rfl));show W3 _ _ (spliced ((false,Yu (.Call (.Name "zip" p2) [a,b] [] pos2) X.env)::aat pos (Xp [] X.env))) _ _ s;refine Zq ?_;refine Zr (gY I hg hm boot_zip (XI (Bm (ha pos2 pins s σ H _ I h) λus s1 vs H1 I1 r1 ⟨a1,a2,xs,ys,e,q1,q2,q⟩=>?_) (by rw[hs,hs2]) (by rw[hs2];rfl)));subst e;cases r1 with
 | cons ra rr =>
  cases rr with
  | cons rb rr =>
   cases rr
   cases ra
   cases rb
   obtain⟨u1,ru1,e1,z1⟩:=I1.list q1
   obtain⟨u2,ru2,e2,z2⟩:=I1.list q2
   have lt1:=let ⟨_,e,_⟩:=e1.isList;WN e
   have lt2:=let ⟨_,e,_⟩:=e2.isList;WN e
   refine call_zip_2 e1.isList e2.isList λh' Z1 Z2 Z3 Z4 Z5 sz kp=>aaw ?_
   refine EX (s:={ s1 with heap:=h',toks:=s1.toks}) (I1.kept (t':=s1.toks) kp) hc (zipApart_new lt1 lt2) ⟨.inl ⟨_,_,Z1,Z3⟩,Z2,Z4,Z5,e1.isList.at λo e=>kp _ o e,e2.isList.at λo e=>kp _ o e⟩ Z1 (WN Z3) (λc hc=>?_) ru1 ru2 (by rw[<- ru1.length];exact z1) q
   have hle:s1.heap.objs.size<=c:=by
    simp only[WM,W4,or_false] at hc;rcases hc with rfl | rfl | rfl | rfl<;>omega
   exact I1.yy hle (I1.bA.fresh hle)
noncomputable def xV(xs ys:List PV):List PV:=(xs.zip ys).map λq=> .tup [q.1,q.2]
def Qj:PV->PV->PH->RV PV:=λx y h=>match x,y with
 | .ref n,.ref m=>(match h[n]?,h[m]? with
  | some (.lst xs),Wv (.lst ys)=> .ok (.ref h.length) (h++[.lst (xV xs ys)])
  | _,_=> .no)
 | _,_=> .no
theorem NB{K}: ∀ xs ys us ws acc racc H,cY K ρ h H->ao K ρ H xs us->ao K ρ H ys ws->ao K ρ H acc racc ->
  (∀ rs H2,Gr ρ H ρ H2->cY K ρ h H2->ao K ρ H2 (acc++xV xs ys) rs->Q rs H2)->zL us ws racc H Q:=by
 intro xs
 induction xs with
 | nil =>
  intro ys us ws acc racc H s r1 r2 r3 q
  subst r1
  exact q _ _ (.refl _ _) s (by simpa [xV] using r3)
 | cons x xs ih =>
  intro ys us ws acc racc H s r1 r2 r3 q
  obtain⟨u,us,rfl,ru,r1⟩:=az.mp r1
  cases ys with
  | nil =>
   subst r2
   exact q _ _ (.refl _ _) s (by simpa [xV] using r3)
  | cons y ys =>
   obtain⟨v,ws,rfl,rv,r2⟩:=az.mp r2
   intro p hp
   have g:Gr ρ H ρ (upd H p (.tup [u,v])):=Gr.xE hp
   refine ih ys us ws (acc++[.tup [x,y]]) _ _ (s.tup hp) (ao.gr g _ _ r1) (ao.gr g _ _ r2) (ao.app (ao.gr g _ _ r3) (ao.one ?_)) λrs H2 g2 z2 r=>q rs H2 (g.trans g2) z2 ?_
   . exact⟨p,_,rfl,aX,az.mpr ⟨_,_,rfl,rel.gr g _ _ ru,ao.one (rel.gr g _ _ rv)⟩⟩
   . rw[WV] at r;exact r
theorem IF(hl:Gl X "list")(hg:Gl X "zip")(ha:JE X pg k a ma)(hb:JE X pg k b mb)(hs1:noStar a=true:=by rfl)(hs2:noStar b=true:=by rfl):JE X pg k (.Call (.Name "list" p) [.Call (.Name "zip" p2) [a,b] [] pos2] [] pos) (aj Qj ma mb):=⟨λA =>
 let ⟨_,q1,s1⟩:=ha.h A;let ⟨_,q2,s2⟩:=hb.h A
 ⟨_,⟨II A.calm hl (A.blt _ (by decide +kernel)) hg (A.blt _ (by decide +kernel)) (qk q1 (qk q2 uS hs2) hs1).h (by rw[bE hs1,bE hs2];rfl) (by rw[bE hs2];rfl)⟩,fun ρ h H e σ Q v h' s r q P=>by
 obtain⟨x,h1,e1,qa⟩:=bind_eq.mp q
 obtain⟨y,h2,e2,qb⟩:=bind_eq.mp qa
 clear q qa
 refine s1 ρ h H e σ _ x h1 s r e1 λx' ρ1 H1 g1 z1 r1=>?_
 refine s2 ρ1 h1 H1 e σ _ y h2 z1 (r.gr g1) e2 λy' ρ2 H2 g2 z2 r2=>?_
 unfold Qj at qb
 split at qb
 . split at qb
   . rename_i xs ys en em;cases qb;obtain⟨b1,vs,rfl,_,eb,ec⟩:=z2.lst en (rel.gr g2 _ _ r1);obtain⟨b2,ws,rfl,_,eb',ec'⟩:=z2.lst em r2;refine⟨b1,b2,vs,ws,rfl,.of eb,.of eb',NB _ _ _ _ [] [] H2 z2 ec ec' (cg.mpr rfl) λrs H3 g3 z3 r3 l hl=>?_⟩;exact dj z3 r3 (λv' ρ' H' g' z' r'=>P v' ρ' H' (((g1.trans g2).trans g3).trans g') z' r') l hl
   . nomatch qb
 . nomatch qb⟩⟩
theorem UU(en:h[n]?=Wv (.lst xs))(em:h[m]?=Wv (.lst ys)):Qj (.ref n) (.ref m) h= .ok (.ref h.length) (h++[.lst (xV xs ys)]):=by
 simp only[Qj,en,em]
end
end P3
end
section
open PySem PySem.W PyProof.Rows
set_option maxHeartbeats 5000000
namespace K26
open PySem L2 P3 PyProof.Rows
noncomputable def top i:=PySem.Challenge.pw_leastrecord_k26_histories.main.body.getD i (.Pass ⟨0,0,0,0⟩)
noncomputable def fm:List (Key × PV):=[(.inr "let",(.ktup [(.str "pocket"),(.str "sum")])),(.inr "leap",(.ktup [(.str "target"),(.str "sum")])),(.inr "get",(.ktup [(.str "pocket"),(.str "box")])),(.inr "put",(.ktup [(.str "box"),(.str "sum")])),(.inr "take",(.ktup [(.str "lock")])),(.inr "free",(.ktup [(.str "lock")])),(.inr "send",(.ktup [(.str "lane"),(.str "sum")])),(.inr "fetch",(.ktup [(.str "pocket"),(.str "lane")])),(.inr "say",(.ktup [(.str "door"),(.str "sum")])),(.inr "clock",(.ktup [(.str "pocket")])),(.inr "lot",(.ktup [(.str "pocket"),(.str "chances")])),(.inr "hear",(.ktup [(.str "pocket"),(.str "door")]))]
noncomputable def cz:List (Key × PV):=[(.inr "box",(.int 2)),(.inr "lock",(.int 3)),(.inr "lane",(.int 4)),(.inr "door",(.int 5))]
noncomputable def gp:List (Key × PV):=[(.inr "get",(.str "box")),(.inr "put",(.str "box")),(.inr "take",(.str "lock")),(.inr "free",(.str "lock")),(.inr "send",(.str "lane")),(.inr "fetch",(.str "lane")),(.inr "say",(.str "door"))]
def qf :=
  (ay (BF (eB nK (ab (aa 0) (ab (eC (.ty "int")) ah))) (Ka (eB nK (ab (aa 0) (ab (eC (.ty "bool")) ah))))))
def iN:Df:=⟨["thing"],0,qf⟩
def mM :=
  (ay (BF (ag "is_whole" (a1 (aa 0))) (t5 Uh Uh (aa 1) (aa 0) (aa 2))))
def fJ:Df:=⟨["thing", "least", "most"],0,mM⟩
def qF :=
  (ay (ag "is_between" (a3 (aa 0) (eI 0) (eI 999))))
def iY:Df:=⟨["thing"],0,qF⟩
def kh :=
  (ay (BF (eB nK (ab (aa 0) (ab (eC (.ty "tuple")) ah))) (aj kb (eB bV (a1 (aa 0))) (aa 1))))
def eR:Df:=⟨["thing", "many"],0,kh⟩
def lZ :=
  (ae (ai (eX 0 0) (gN 2))
  (ae (bW (mQ (aa 2) (eS "num")) (ay (eX 0 1)) cE)
  (ae (bW (mQ (aa 2) (eS "of")) (ay (Ac (eB xw (a1 (aa 1))) (eX 0 1) (eI 0))) cE)
  (ae (ai (ag "worth" (a2 (eX 0 1) (aa 1))) (gN 3))
  (ae (bW (mQ (aa 2) (eS "not")) (ay (vt (mQ (aa 3) (eI 0)) (eI 1) (eI 0))) cE)
  (ay (ag "joined_worth" (ab (aa 2) (ab (aa 3) (ab (ag "worth" (a2 (eX 0 2) (aa 1))) ah))))))))))
def i7:Df:=⟨["tree", "pockets"],2,lZ⟩
def jk :=
  (ae (bW (mQ (aa 0) (eS "add")) (ay (aj m8 (aj aU (aa 1) (aa 2)) (eI 1000))) cE)
  (ae (bW (mQ (aa 0) (eS "sub")) (ay (aj m8 (aj rD (aa 1) (aa 2)) (eI 1000))) cE)
  (ae (bW (mQ (aa 0) (eS "mul")) (ay (aj m8 (aj dF (aa 1) (aa 2)) (eI 1000))) cE)
  (ae (bW (mQ (aa 0) (eS "less")) (ay (vt (aF (aj BM (aa 1) (aa 2))) (eI 1) (eI 0))) cE)
  (ay (vt (aF (aj kb (aa 1) (aa 2))) (eI 1) (eI 0)))))))
def dO:Df:=⟨["word", "one", "other"],0,jk⟩
def pQ :=
  (ae (ai (aj aB (aa 0) (U3 (.ktup [(.str "box"),(.str "lock"),(.str "lane"),(.str "door"),(.str "hand")]) (a1 (aa 1)))) (gN 2))
  (ae (bW (HV (mQ (aa 1) (eS "box")) (mQ (aa 1) (eS "hand"))) (ay (je 1 (jh (aa 2)) (gN 3) aN (eX 3 0))) cE)
  (ay (eB jd (a1 (aa 2))))))
def iS:Df:=⟨["program", "sort"],1,pQ⟩
def jB :=
  (ae (ai (ag "names_of" (a2 (aa 0) (aa 1))) (gN 3))
  (ay (vt (aF (aj jw (aa 2) (aa 3))) (eM iZ bq (aa 3) (a1 (aa 2))) (eC .non))))
def fj:Df:=⟨["program", "sort", "name"],1,jB⟩
def tP :=
  (ay (aj aB (aj aB (eX 0 4) (aa 1)) (eI 1)))
def j6:Df:=⟨["program", "hand"],0,tP⟩
def lI :=
  (ay (ag "rested" (ab (aa 0) (ab (aa 1) (ab (aq (a3 (eI 0) (aq ah) (aq ah))) ah)))))
def fR:Df:=⟨["program", "hand"],0,lI⟩
def vW :=
  (ae (ai (ag "rows_of" (a2 (aa 0) (aa 1))) (gN 3))
  (ae (ai (aa 2) (gN 4))
  (ae (ja (cO (a1 (eI 200))) (gN 5) (ae (bW (aF (ag "is_rested" (a2 (aa 3) (aa 4)))) (ay (aa 4)) cE)
  (ai (ag "behind_own_row" (ab (aj aB (aa 3) (eX 4 0)) (a1 (aa 4)))) (gN 4))))
  (ae (bW (aF (ag "is_rested" (a2 (aa 3) (aa 4)))) (ay (aa 4)) cE)
  (ay (aq (ab (eB bV (a1 (aa 3))) (a2 (eX 4 1) (eX 4 2)))))))))
def mE:Df:=⟨["program", "hand", "seat"],3,vW⟩
def jD :=
  (ay (Rt (aj kb (eX 1 0) (eB bV (a1 (aa 0)))) (Ka (ag "is_own_row" (ab (aj aB (aa 0) (eX 1 0)) (a1 (eX 1 2)))))))
def eY:Df:=⟨["rows", "seat"],0,jD⟩
def my :=
  (ae (bW (mQ (eX 0 0) (eS "take")) (ay (aj jw (eX 0 1) (aa 1))) cE)
  (ae (bW (mQ (eX 0 0) (eS "free")) (ay (aj kA (eX 0 1) (aa 1))) cE)
  (ay (Rt (aj kb (eX 0 0) (eS "let")) (aj kb (eX 0 0) (eS "leap"))))))
def fH:Df:=⟨["row", "held"],0,my⟩
def cM :=
  (ae (ai (aj aU (eX 1 0) (eI 1)) (gN 2))
  (ae (bW (mQ (eX 0 0) (eS "let")) (ay (aq (ab (aa 2) (ab (ag "laid" (ab (eX 1 1) (ab (eX 0 1) (ab (ag "worth" (a2 (eX 0 2) (eX 1 1))) ah)))) (a1 (eX 1 2)))))) cE)
  (ae (bW (lT (mQ (eX 0 0) (eS "leap")) (aF (aj ke (ag "worth" (a2 (eX 0 2) (eX 1 1))) (eI 0)))) (ay (aq (a3 (eX 0 1) (eX 1 1) (eX 1 2)))) cE)
  (ay (aq (a3 (aa 2) (eX 1 1) (eX 1 2)))))))
def bP:Df:=⟨["row", "seat"],1,cM⟩
def yg :=
  (ae (ai (je 1 (jh (aa 0)) (gN 4) (aF (aj ke (eX 4 0) (aa 1))) (aa 4)) (gN 3))
  (ae (bW (aF (aj ke (aa 2) (eI 0))) (bS (eM aG bq (aa 3) (ab (aq (a2 (aa 1) (aa 2))) ah))) cE)
  (ay (eB bf (ab (eB eZ (a1 (aa 3))) ah)))))
def qM:Df:=⟨["pockets", "name", "value"],1,yg⟩
def kQ :=
  (ae (ai (ag "rows_of" (a2 (aa 0) (aa 1))) (gN 3))
  (ae (bW (aF (aj kb (eX 2 0) (eB bV (a1 (aa 3))))) (ay (eC .non)) cE)
  (ae (ai (aj aB (aa 3) (eX 2 0)) (gN 4))
  (ae (ai (eS "") (gN 5))
  (ae (ai (eC .non) (gN 6))
  (ae (ja (Ph (tF fm (eX 4 0)) (q9 (aa 4) (cB (eI 1)) dS)) (gT 2 (aA (gN 7) (aA (gN 8) cw))) (bW (mQ (aa 7) (eS "sum")) (ai (ag "worth" (a2 (aa 8) (eX 2 1))) (gN 6)) (bW (mQ (aa 7) (eS "chances")) (ai (aa 8) (gN 6)) (bW (aF (aj ke (aa 7) (eS "pocket"))) (ai (aa 8) (gN 5)) cE))))
  (ay (aq (a3 (eX 4 0) (aa 5) (aa 6))))))))))
def gb:Df:=⟨["program", "hand", "seat"],6,kQ⟩
def c8 :=
  (ae (ai (aj aB (ag "rows_of" (a2 (aa 0) (aa 1))) (eX 2 0)) (gN 4))
  (ae (ai (eX 2 1) (gN 5))
  (ae (ai (eX 2 2) (gN 6))
  (ae (bW (aF (aj jw (eX 4 0) (eC (.ktup [(.str "get"),(.str "fetch"),(.str "clock"),(.str "lot"),(.str "hear")])))) (ai (ag "laid" (a3 (aa 5) (eX 4 1) (aa 3))) (gN 5)) (bW (mQ (eX 4 0) (eS "take")) (ai (eB bf (ab (eB eZ (ab (aj aU (aa 6) (aq (a1 (eX 4 1)))) ah)) ah)) (gN 6)) (bW (mQ (eX 4 0) (eS "free")) (ai (eB bf (ab (je 1 (jh (aa 6)) (gN 7) (aF (aj ke (aa 7) (eX 4 1))) (aa 7)) ah)) (gN 6)) cE)))
  (ay (ag "rested" (ab (aa 0) (ab (aa 1) (ab (aq (ab (aj aU (eX 2 0) (eI 1)) (a2 (aa 5) (aa 6)))) ah)))))))))
def ck:Df:=⟨["program", "hand", "seat", "value"],3,c8⟩
def kr :=
  (ay (BF (ag "is_value" (a1 (aa 1))) (Rt (aj ke (eX 0 0) (eS "lot")) (aj BM (aa 1) (eX 0 2)))))
def fY:Df:=⟨["touch", "value"],0,kr⟩
def kn :=
  (ae (ai (ag "hands_of" (a1 (aa 0))) (gN 1))
  (ay (aq (ab (eB bf (ab (je 1 (jh (aa 1)) (gN 2) aN (eI 0)) ah)) (ab (eB bf (ab (je 1 (jh (aa 1)) (gN 2) aN (ag "first_seat" (a2 (aa 0) (aa 2)))) ah)) (ab (eB bf (ab (je 1 (jh (eX 0 0)) (gN 2) aN (aq (a2 (eX 2 1) (eC .non)))) ah)) (ab (eB bf (ab (je 1 (jh (eX 0 1)) (gN 2) aN (aq (a2 (eC .non) (eC .non)))) ah)) (ab (eB bf (ab (je 1 (jh (eX 0 2)) (gN 2) aN (aq (a3 (eI 0) (eI 0) (aq ah)))) ah)) (ab (eB bf (ab (je 1 (jh (eX 0 3)) (gN 2) aN (eI 0)) ah)) ah)))))))))
def eU:Df:=⟨["program"],1,kn⟩
def qI :=
  (ay (Vl (ab (eB bV (a1 (eX 0 4))) ah)))
def iR:Df:=⟨["program"],0,qI⟩
def pC :=
  (ay (aj aB (aj aB (aa 1) (tF cz (aa 2))) (ag "number_of" (a3 (aa 0) (aa 2) (aa 3)))))
def iO:Df:=⟨["program", "stand", "sort", "name"],0,pC⟩
def eE :=
  (ae (ai (ag "touch_of" (ab (aa 0) (ab (aa 2) (ab (aj aB (eX 1 1) (aa 2)) ah)))) (gN 3))
  (ae (bW (aF (xR (gA false) (aa 3))) (ay (eS "end")) cE)
  (ae (bW (mQ (eX 3 0) (eS "take")) (ae (ai (aj aB (ag "state_of" (ab (aa 0) (a3 (aa 1) (eS "lock") (eX 3 1)))) (eI 0)) (gN 4))
  (ay (vt (aF (xR (gA false) (aa 4))) (eC .non) (aq (a3 (eS "lock") (eX 3 1) (aa 4)))))) cE)
  (ae (bW (lT (mQ (eX 3 0) (eS "fetch")) (aF (aj kb (aj aB (ag "state_of" (ab (aa 0) (a3 (aa 1) (eS "lane") (eX 3 1)))) (eI 2)) (aq ah)))) (ay (aq (a2 (eS "letter") (eX 3 1)))) cE)
  (ay (eC .non))))))
def cP:Df:=⟨["program", "stand", "hand"],2,eE⟩
def xY :=
  (ae (ai (ag "due_touch" (ab (aa 0) (a3 (aa 1) (aa 2) (aa 3)))) (gN 4))
  (ae (ai (eX 4 0) (gN 5))
  (ae (ai (eX 4 1) (gN 6))
  (ae (bW (aF (aj jw (aa 5) (eC (.ktup [(.str "clock"),(.str "lot"),(.str "hear")])))) (ay (aq (ab (ag "with_hand_on" (ab (aa 0) (a3 (aa 1) (aa 2) (aa 3)))) (ab (aq (ab (aa 5) (a3 (aa 6) (aa 3) (eC .non)))) ah)))) cE)
  (ae (ai (tF gp (aa 5)) (gN 7))
  (ae (ai (ag "meeting" (ab (aa 4) (ab (aq (ab (aa 2) (ab (aj aB (eX 1 0) (aa 2)) ah))) (ab (ag "state_of" (ab (aa 0) (a3 (aa 1) (aa 7) (aa 6)))) ah)))) (gN 8))
  (ae (ai (ag "with_state" (ab (aa 0) (ab (aa 1) (a3 (aa 7) (aa 6) (eX 8 2))))) (gN 9))
  (ay (aq (ab (ag "with_hand_on" (ab (aa 0) (a3 (aa 9) (aa 2) (eX 8 0)))) (ab (aq (ab (aa 5) (a3 (aa 6) (eX 8 0) (eX 8 1)))) ah)))))))))))
def qi:Df:=⟨["program", "stand", "hand", "gift"],6,xY⟩
def oq :=
  (ae (bW (nF (aF (ag "is_between" (ab (aa 2) (ab (eI 0) (ab (aj rD (eB bV (a1 (eX 0 4))) (eI 1)) ah)))))) jC cE)
  (ae (ai (ag "wait_of" (a3 (aa 0) (aa 1) (aa 2))) (gN 4))
  (ae (bW (mQ (aa 4) (eS "end")) jC cE)
  (ae (bW (aF (xR (gA true) (aa 4))) jC cE)
  (ae (ai (ag "touch_of" (ab (aa 0) (ab (aa 2) (ab (aj aB (eX 1 1) (aa 2)) ah)))) (gN 5))
  (ae (bW (nF (aF (ag "takes_gift" (a2 (aa 5) (aa 3))))) jC cE)
  (ay (aa 5))))))))
def gQ:Df:=⟨["program", "stand", "hand", "gift"],2,oq⟩
def iU :=
  (ay (vt (aF (aj jw (eX 0 0) (eC (.ktup [(.str "clock"),(.str "lot"),(.str "hear")])))) (ag "may_come" (a2 (aa 0) (aa 1))) (xR (gA false) (aa 1))))
def dX:Df:=⟨["touch", "gift"],0,iU⟩
def dB :=
  (ae (ai (eX 0 0) (gN 3))
  (ae (ai (eX 0 2) (gN 4))
  (ae (bW (mQ (aa 3) (eS "get")) (ay (aq (a3 (eX 2 0) (eX 2 1) (aa 2)))) cE)
  (ae (bW (mQ (aa 3) (eS "put")) (ay (aq (ab (aa 4) (ab (eX 2 1) (ab (aq (a2 (aa 4) (aa 1))) ah))))) cE)
  (ae (bW (mQ (aa 3) (eS "take")) (ay (aq (ab (eC .non) (ab (eX 2 1) (ab (aq (a2 (eX 1 0) (eX 2 1))) ah))))) cE)
  (ae (bW (mQ (aa 3) (eS "free")) (ay (aq (ab (eC .non) (ab (eC .non) (ab (aq (a2 (eC .non) (aa 1))) ah))))) cE)
  (ae (bW (mQ (aa 3) (eS "send")) (ay (aq (ab (aa 4) (ab (eX 2 0) (ab (aq (ab (aj aU (eX 2 0) (eI 1)) (ab (eX 2 1) (ab (aj aU (eX 2 2) (aq (a1 (aa 4)))) ah)))) ah))))) cE)
  (ae (bW (mQ (aa 3) (eS "fetch")) (ay (aq (ab (aj aB (eX 2 2) (eI 0)) (ab (eX 2 1) (ab (aq (ab (eX 2 0) (ab (aj aU (eX 2 1) (eI 1)) (ab (q9 (eX 2 2) (cB (eI 1)) dS) ah)))) ah))))) cE)
  (ay (aq (ab (aa 4) (ab (aa 2) (ab (aj aU (aa 2) (eI 1)) ah)))))))))))))
def cC:Df:=⟨["touch", "event", "state"],2,dB⟩
def jH :=
  (ae (ai (ag "seat_behind" (ab (aa 0) (ab (aa 2) (ab (aj aB (eX 1 1) (aa 2)) (a1 (aa 3)))))) (gN 4))
  (ae (ai (ag "replaced" (ab (aa 1) (ab (eI 0) (ab (ag "replaced" (ab (eX 1 0) (ab (aa 2) (ab (aj aU (aj aB (eX 1 0) (aa 2)) (eI 1)) ah)))) ah)))) (gN 5))
  (ay (ag "replaced" (ab (aa 5) (ab (eI 1) (ab (ag "replaced" (a3 (eX 1 1) (aa 2) (aa 4))) ah)))))))
def dY:Df:=⟨["program", "stand", "hand", "value"],2,jH⟩
def lE :=
  (ae (ai (tF cz (aa 2)) (gN 5))
  (ay (ag "replaced" (ab (aa 1) (ab (aa 5) (ab (ag "replaced" (ab (aj aB (aa 1) (aa 5)) (ab (ag "number_of" (a3 (aa 0) (aa 2) (aa 3))) (a1 (aa 4))))) ah))))))
def fT:Df:=⟨["program", "stand", "sort", "name", "state"],1,lE⟩
def pH :=
  (ay (aj aU (aj aU (q9 (aa 0) dS (cB (aa 1))) (aq (a1 (aa 2)))) (q9 (aa 0) (cB (aj aU (aa 1) (eI 1))) dS)))
def iW:Df:=⟨["parts", "place", "part"],0,pH⟩
def wM :=
  (ae (bW (HV (nF (aF (eB nK (ab (aa 2) (ab (eC (.ty "tuple")) ah))))) (aF (aj Qk (eB bV (a1 (aa 2))) (eI 60)))) jC cE)
  (ae (ai (aa 1) (gN 3))
  (ae (ai (bD ah) (gN 4))
  (ae (ja (Fw (aa 2)) (gT 2 (aA (gN 5) (aA (gN 6) cw))) (ae (bW (nF (aF (ag "is_tuple_of" (a2 (aa 6) (eI 2))))) jC cE)
  (ae (ai (ag "stepped" (ab (aa 0) (a3 (aa 3) (aa 5) (aa 6)))) (gN 7))
  (ae (ai (eX 7 0) (gN 3))
  (bS (eM aG bq (aa 4) (ab (aq (a2 (eX 6 0) (eX 7 1))) ah)))))))
  (ay (aq (ab (aa 3) (ab (eB bf (a1 (aa 4))) ah))))))))
def lF:Df:=⟨["program", "stand", "run"],5,wM⟩
def sN :=
  (ay (ag "gone" (ab (aa 0) (a3 (aa 1) (eX 3 0) (eX 3 1)))))
def jZ:Df:=⟨["program", "stand", "place", "step"],1,sN⟩
def nB :=
  (ae (ai (ag "touches_of" (a3 (aa 0) (aa 1) (aa 2))) (gN 4))
  (ae (bW (aF (eB IZ (ab (je 1 (FN cz) (gN 5) aN (xR (gA false) (ag "number_of" (a3 (aa 0) (aa 5) (aa 3))))) ah))) (ay (bD ah)) cE)
  (ay (je 1 (jh (aa 4)) (gN 5) (aF (aj kb (aj aB (eX 5 1) (eI 1)) (aa 3))) (aa 5)))))
def iC:Df:=⟨["program", "stand", "run", "name"],1,nB⟩
def lK :=
  (ay (ag "with_events" (ab (aa 1) (ab (aj aB (ag "walked" (a3 (aa 0) (aa 1) (aa 2))) (eI 1)) ah))))
def fL:Df:=⟨["program", "stand", "run"],0,lK⟩
def ko :=
  (ae (ai (ag "events_by" (ab (aa 0) (ab (je 2 (jh (aa 1)) (gT 2 (aA (gN 3) (aA (gN 4) cw))) aN (aa 3)) ah))) (gN 2))
  (ay (aj Qj (aa 2) (je 2 (jh (aa 1)) (gT 2 (aA (gN 3) (aA (gN 4) cw))) aN (aa 4)))))
def eV:Df:=⟨["stand", "touches"],1,ko⟩
def nV :=
  (ae (ai (eB jd (a1 (eX 0 0))) (gN 2))
  (ae (ai (bD ah) (gN 3))
  (ae (ja (jh (aa 1)) (gN 4) (ae (bS (eM aG bq (aa 3) (ab (aq (ab (aa 4) (ab (aj aB (aa 2) (aa 4)) ah))) ah)))
  (B7 (aa 2) (aa 4) (eI 1))))
  (ay (aa 3)))))
def gR:Df:=⟨["stand", "hands"],3,nV⟩
def kX :=
  (ae (ai (aj dF (eI 7919) (aa 1)) (gN 2))
  (ae (bW (aF (aj Qk (eB bV (a1 (aa 0))) (eI 0))) (ai (aj aU (aj aB (aa 0) (aj m8 (aa 1) (eB bV (a1 (aa 0))))) (aj dF (eI 1009) (aj pL (aa 1) (eB bV (a1 (aa 0)))))) (gN 2)) cE)
  (ay (bD (ab (aj dF (aa 2) (eB wL (ab (aj UH (aa 2) (aj Hi (eI 10) (eI 18))) ah))) (a2 (aa 2) (eI 0)))))))
def gH:Df:=⟨["_law_script", "_law_k"],1,kX⟩
def jz :=
  (ae (fQ dM (aa 0) (eI 2) (aj aU (eX 0 2) (eI 1)))
  (ae (bW (aF (aj Qk (eX 0 0) (eI 0))) (ae (ai (aj m8 (eX 0 0) (aa 1)) (gN 2))
  (ae (fQ dM (aa 0) (eI 0) (aj pL (eX 0 0) (aa 1)))
  (ay (aa 2)))) cE)
  (ae (ai (aj m8 (aj dF (aj aU (aj m8 (eX 0 1) (eI 2147483647)) (aj dF (eI 31) (eX 0 2))) (eI 48271)) (eI 2147483629)) (gN 3))
  (ae (ai (aj m8 (aj dF (aj aU (aj pL (aa 3) (eI 11)) (aj dF (eI 17) (eX 0 2))) (eI 69621)) (eI 2147483587)) (gN 3))
  (ay (aj m8 (aj pL (aa 3) (eI 7)) (aa 1)))))))
def fq:Df:=⟨["_law_box_here", "_law_many"],2,jz⟩
def eO :=
  (ae (ai (ag "_law_take" (a2 (aa 0) (eI 8))) (gN 3))
  (ae (bW (HV (mQ (aa 2) (eI 0)) (aF (aj BM (aa 3) (eI 2)))) (ay (aq (ab (eS "num") (ab (aj aB (bD (ab (eI 0) (ab (eI 1) (ab (eI 2) (ab (eI 3) (a3 (eI 7) (eI 500) (eI 999))))))) (ag "_law_take" (a2 (aa 0) (eI 7)))) ah)))) cE)
  (ae (bW (aF (aj BM (aa 3) (eI 5))) (ay (aq (ab (eS "of") (ab (aj aB (aa 1) (ag "_law_take" (ab (aa 0) (ab (eB bV (a1 (aa 1))) ah)))) ah)))) cE)
  (ae (bW (mQ (aa 3) (eI 5)) (ay (aq (ab (eS "not") (ab (ag "_law_sum" (ab (aa 0) (ab (aa 1) (ab (aj rD (aa 2) (eI 1)) ah)))) ah)))) cE)
  (ae (ai (aj aB (bD (ab (eS "add") (ab (eS "sub") (a3 (eS "mul") (eS "less") (eS "same"))))) (ag "_law_take" (a2 (aa 0) (eI 5)))) (gN 4))
  (ay (aq (ab (aa 4) (ab (ag "_law_sum" (ab (aa 0) (ab (aa 1) (ab (aj rD (aa 2) (eI 1)) ah)))) (ab (ag "_law_sum" (ab (aa 0) (ab (aa 1) (ab (aj rD (aa 2) (eI 1)) ah)))) ah))))))))))
def cI:Df:=⟨["_law_box_here", "_law_pockets", "_law_deep"],2,eO⟩
def bQ :=
  (ae (ai (aj aB (aa 3) (ag "_law_take" (ab (aa 0) (ab (eB bV (a1 (aa 3))) ah)))) (gN 4))
  (ae (ai (aj aB (aa 2) (ag "_law_take" (ab (aa 0) (ab (eB bV (a1 (aa 2))) ah)))) (gN 5))
  (ae (bW (aF (aj jw (aa 4) (aq (a2 (eS "clock") (eS "lot"))))) (ay (vt (mQ (aa 4) (eS "clock")) (aq (a2 (eS "clock") (aa 5))) (aq (ab (eS "lot") (ab (aa 5) (ab (aj aB (bD (ab (eI 2) (a3 (eI 3) (eI 7) (eI 1000)))) (ag "_law_take" (a2 (aa 0) (eI 4)))) ah)))))) cE)
  (ae (ai (aj aB (vJ (fG (eS "get") (eI 0) (fG (eS "put") (eI 0) (fG (eS "take") (eI 1) (fG (eS "free") (eI 1) (fG (eS "send") (eI 2) (fG (eS "fetch") (eI 2) (fG (eS "say") (eI 3) (fG (eS "hear") (eI 3) D8))))))))) (aa 4)) (gN 6))
  (ae (ai (aj aB (aj aB (aa 1) (aa 6)) (ag "_law_take" (ab (aa 0) (ab (eB bV (ab (aj aB (aa 1) (aa 6)) ah)) ah)))) (gN 7))
  (ae (bW (aF (aj jw (aa 4) (aq (a3 (eS "get") (eS "fetch") (eS "hear"))))) (ay (aq (a3 (aa 4) (aa 5) (aa 7)))) cE)
  (ay (vt (aF (aj jw (aa 4) (aq (a2 (eS "take") (eS "free"))))) (aq (a2 (aa 4) (aa 7))) (aq (ab (aa 4) (ab (aa 7) (ab (ag "_law_sum" (a3 (aa 0) (aa 2) (eI 2))) ah))))))))))))
def bj:Df:=⟨["_law_box_here", "_law_names", "_law_pockets", "_law_kinds"],4,bQ⟩
def nX :=
  (ae (ai (bD (a2 (eS "clock") (eS "lot"))) (gN 3))
  (ae (ja (jh (bD (ab (aq (ab (eI 0) (ab (bD (a2 (eS "get") (eS "put"))) ah))) (ab (aq (ab (eI 1) (ab (bD (a2 (eS "take") (eS "free"))) ah))) (ab (aq (ab (eI 2) (ab (bD (a2 (eS "send") (eS "fetch"))) ah))) (ab (aq (ab (eI 3) (ab (bD (a2 (eS "say") (eS "hear"))) ah))) ah)))))) (gT 2 (aA (gN 4) (aA (gN 5) cw))) (bW (aF (aj ke (aj aB (aa 1) (aa 4)) (bD ah))) (ai (aj aU (aj aU (aa 3) (aa 5)) (aa 5)) (gN 3)) cE))
  (ae (ai (aj aB (bD (ab (ag "_law_take" (a2 (aa 0) (eI 4))) (ab (aj aU (eI 3) (ag "_law_take" (a2 (aa 0) (eI 8)))) ah))) (eB wL (ab (aj Qk (ag "_law_take" (a2 (aa 0) (eI 6))) (eI 0)) ah))) (gN 6))
  (ae (ai (bD ah) (gN 7))
  (ae (ja (cO (a1 (aa 6))) (gN 8) (ae (ai (ag "_law_take" (a2 (aa 0) (eI 8))) (gN 9))
  (bW (mQ (aa 9) (eI 0)) (bS (eM aG bq (aa 7) (ab (aq (ab (eS "let") (ab (aj aB (aa 2) (ag "_law_take" (ab (aa 0) (ab (eB bV (a1 (aa 2))) ah)))) (ab (ag "_law_sum" (a3 (aa 0) (aa 2) (eI 2))) ah)))) ah))) (bW (mQ (aa 9) (eI 1)) (bS (eM aG bq (aa 7) (ab (aq (ab (eS "leap") (ab (ag "_law_take" (ab (aa 0) (ab (aj aU (aa 6) (eI 1)) ah))) (ab (ag "_law_sum" (a3 (aa 0) (aa 2) (eI 2))) ah)))) ah))) (bS (eM aG bq (aa 7) (ab (ag "_law_touch_row" (ab (aa 0) (a3 (aa 1) (aa 2) (aa 3)))) ah)))))))
  (ay (eB bf (a1 (aa 7)))))))))
def gX:Df:=⟨["_law_box_here", "_law_names", "_law_pockets"],7,nX⟩
def gK :=
  (ae (ai (bD (ab (eS "a") (ab (eS "ab") (ab (eS "putter") (ab (eS "b") (ab (eS "getx") (ab (eS "abc") (ab (eS "locked") (ab (eS "sayer") (ab (eS "c") (a3 (eS "hands") (eS "fetched") (eS "abcdefgh")))))))))))) (gN 1))
  (ae (ai (ag "_law_take" (a2 (aa 0) (eI 12))) (gN 2))
  (ae (ai (aj aU (q9 (aa 1) (cB (aa 2)) dS) (q9 (aa 1) dS (cB (aa 2)))) (gN 1))
  (ae (ai (bD ah) (gN 3))
  (ae (ja (cO (a1 (eI 4))) (gN 4) (ae (ai (aj aB (bD (ab (eI 1) (ab (eI 2) (a3 (eI 1) (eI 0) (eI 2))))) (ag "_law_take" (a2 (aa 0) (eI 5)))) (gN 5))
  (bS (eM aG bq (aa 3) (ab (q9 (aa 1) (cB (aj dF (eI 2) (aa 4))) (cB (aj aU (aj dF (eI 2) (aa 4)) (aa 5)))) ah)))))
  (ae (ai (eB bf (ab (je 1 (jh (eX 3 0)) (gN 10) aN (aq (ab (aa 10) (ab (aj aB (bD (ab (eI 0) (a3 (eI 5) (eI 999) (eI 1)))) (ag "_law_take" (a2 (aa 0) (eI 4)))) ah)))) ah)) (gN 6))
  (ae (ai (bD ah) (gN 7))
  (ae (ja (cO (ab (aj aB (bD (ab (eI 2) (ab (eI 2) (ab (eI 3) (a3 (eI 4) (eI 1) (eI 2)))))) (ag "_law_take" (a2 (aa 0) (eI 6)))) ah)) (gN 8) (ae (ai (q9 (bD (ab (eS "p") (ab (vt (aF (aj ke (eX 3 0) (bD ah))) (aj aB (eX 3 0) (eI 0)) (eS "q")) (ab (eS "pp") (ab (aj aB (aa 1) (aj aU (eI 8) (aa 8))) ah))))) dS (cB (aj aU (eI 1) (ag "_law_take" (a2 (aa 0) (eI 4)))))) (gN 9))
  (bS (eM aG bq (aa 7) (ab (aq (ab (aj aB (aa 1) (aj aU (eI 8) (aa 8))) (ab (ag "_law_rows" (a3 (aa 0) (aa 3) (aa 9))) ah))) ah)))))
  (ay (aq (ab (aa 6) (ab (eB bf (a1 (eX 3 1))) (ab (eB bf (a1 (eX 3 2))) (ab (eB bf (a1 (eX 3 3))) (ab (eB bf (a1 (aa 7))) ah)))))))))))))))
def gq:Df:=⟨["_law_box_here"],9,gK⟩
def bH :=
  (ae (bW (mQ (eX 0 0) (eS "num")) (ay (eX 0 1)) cE)
  (ae (bW (mQ (eX 0 0) (eS "of")) (ay (Ac (aa 1) (eX 0 1) (eI 0))) cE)
  (ae (ai (ag "_law_worth" (a2 (eX 0 1) (aa 1))) (gN 2))
  (ae (bW (mQ (eX 0 0) (eS "not")) (ay (eB wL (ab (aj kb (aa 2) (eI 0)) ah))) cE)
  (ae (ai (ag "_law_worth" (a2 (eX 0 2) (aa 1))) (gN 3))
  (ae (bW (aF (aj jw (eX 0 0) (aq (a2 (eS "less") (eS "same"))))) (ay (vt (mQ (eX 0 0) (eS "less")) (eB wL (ab (aj BM (aa 2) (aa 3)) ah)) (eB wL (ab (aj kb (aa 2) (aa 3)) ah)))) cE)
  (ay (aj m8 (aj aB (vJ (fG (eS "add") (aj aU (aa 2) (aa 3)) (fG (eS "sub") (aj rD (aa 2) (aa 3)) (fG (eS "mul") (aj dF (aa 2) (aa 3)) D8)))) (eX 0 0)) (eI 1000)))))))))
def aY:Df:=⟨["_law_e", "_law_pockets"],2,bH⟩
def eP :=
  (ae (bW (HV (mQ (eX 0 0) (eS "take")) (mQ (eX 0 0) (eS "free"))) (ay (aj kb (aj jw (eX 0 1) (aa 1)) (aj kb (eX 0 0) (eS "take")))) cE)
  (ay (aj jw (eX 0 0) (aq (a2 (eS "let") (eS "leap"))))))
def cD:Df:=⟨["_law_row_here", "_law_held"],0,eP⟩
def ju :=
  (ae (ai (eI 0) (gN 4))
  (ae (uT (lT (aF (aj BM (aa 1) (eB bV (a1 (aa 0))))) (aF (ag "_law_is_own" (ab (aj aB (aa 0) (aa 1)) (a1 (aa 3)))))) (ae (bW (mQ (aa 4) (eI 200)) (ay (eB bV (a1 (aa 0)))) cE)
  (ae (ai (aj aB (aa 0) (aa 1)) (gN 5))
  (ae (ai (aj aU (aa 4) (eI 1)) (gN 4))
  (ae (ai (aj aU (aa 1) (eI 1)) (gN 1))
  (ae (bW (mQ (eX 5 0) (eS "let")) (fQ dM (aa 2) (eX 5 1) (ag "_law_worth" (a2 (eX 5 2) (aa 2)))) cE)
  (bW (lT (mQ (eX 5 0) (eS "leap")) (aF (aj ke (ag "_law_worth" (a2 (eX 5 2) (aa 2))) (eI 0)))) (ai (eX 5 1) (gN 1)) cE)))))))
  (ay (aa 1))))
def ft:Df:=⟨["_law_rows_here", "_law_at", "_law_pockets", "_law_held"],2,ju⟩
def iK :=
  (ae (ai (vJ (fG (eS "counts") (bD ah) (fG (eS "seats") (bD ah) (fG (eS "doors") (je 1 (jh (eX 0 3)) (gN 5) aN (eI 0)) D8)))) (gN 1))
  (ae (fQ dM (aa 1) (eS "boxes") (je 1 (jh (eX 0 0)) (gN 5) aN (aq (a2 (eX 5 1) (eC .non)))))
  (ae (fQ dM (aa 1) (eS "locks") (je 1 (jh (eX 0 1)) (gN 5) aN (aq (a2 (eC .non) (eC .non)))))
  (ae (fQ dM (aa 1) (eS "lanes") (je 1 (jh (eX 0 2)) (gN 5) aN (aq (a3 (eI 0) (eI 0) (aq ah)))))
  (ae (ja (jh (eX 0 4)) (gN 2) (ae (ai uC (gN 3))
  (ae (ai (ag "_law_rest" (ab (eX 2 1) (a3 (eI 0) (aa 3) (bD ah)))) (gN 4))
  (ae (bS (eM aG bq (aj aB (aa 1) (eS "counts")) (a1 (eI 0))))
  (bS (eM aG bq (aj aB (aa 1) (eS "seats")) (ab (aq (a3 (aa 4) (aa 3) (bD ah))) ah)))))))
  (ay (aa 1)))))))
def iX:Df:=⟨["_law_program_here"],4,iK⟩
def ku :=
  (ae (ai (aj aB (aj aB (eX 0 4) (aa 2)) (eI 1)) (gN 3))
  (ae (ai (aj aB (aj aB (aj aB (aa 1) (eS "seats")) (aa 2)) (eI 0)) (gN 4))
  (ay (vt (aF (aj BM (aa 4) (eB bV (a1 (aa 3))))) (aj aB (aa 3) (aa 4)) (eC .non)))))
def gE:Df:=⟨["_law_program_here", "_law_state", "_law_hand"],2,ku⟩
def cJ :=
  (ae (ai (ag "_law_row" (a3 (aa 0) (aa 1) (aa 2))) (gN 3))
  (ae (bW (aF (xR (gA false) (aa 3))) (ay (eS "end")) cE)
  (ae (bW (mQ (eX 3 0) (eS "take")) (ae (ai (aj aB (aj aB (aj aB (aa 1) (eS "locks")) (Jp (eX 0 1) (a1 (eX 3 1)))) (eI 0)) (gN 4))
  (ay (vt (aF (xR (gA false) (aa 4))) (eC .non) (aq (a3 (eS "lock") (eX 3 1) (aa 4)))))) cE)
  (ae (bW (lT (mQ (eX 3 0) (eS "fetch")) (aF (aj kb (aj aB (aj aB (aj aB (aa 1) (eS "lanes")) (Jp (eX 0 2) (a1 (eX 3 2)))) (eI 2)) (aq ah)))) (ay (aq (a2 (eS "letter") (eX 3 2)))) cE)
  (ay (eC .non))))))
def cj:Df:=⟨["_law_program_here", "_law_state", "_law_hand"],2,cJ⟩
def iM :=
  (ae (bW (mQ (eX 2 0) (eS "get")) (ae (ai (aj aB (aj aB (aa 1) (eS "boxes")) (eM iZ bq (je 1 (jh (eX 0 0)) (gN 8) aN (eX 8 0)) (a1 (eX 2 2)))) (gT 2 (aA (gN 5) (aA (gN 6) cw))))
  (ae (fQ dM (aa 4) (eX 2 1) (aa 5))
  (ay (aq (ab (eS "get") (a3 (eX 2 2) (aa 5) (aa 6))))))) cE)
  (ae (ai (eM iZ bq (je 1 (jh (eX 0 0)) (gN 8) aN (eX 8 0)) (a1 (eX 2 1))) (gN 7))
  (ae (ai (aj aB (aj aB (aj aB (aa 1) (eS "boxes")) (aa 7)) (eI 1)) (gN 6))
  (ae (fQ dM (aj aB (aa 1) (eS "boxes")) (aa 7) (aq (ab (ag "_law_worth" (a2 (eX 2 2) (aa 4))) (a1 (aa 3)))))
  (ay (aq (ab (eS "put") (ab (eX 2 1) (ab (aj aB (aj aB (aj aB (aa 1) (eS "boxes")) (aa 7)) (eI 0)) (a1 (aa 6)))))))))))
def dP:Df:=⟨["_law_program_here", "_law_state", "_law_row_here", "_law_event", "_law_pockets"],3,iM⟩
def hI :=
  (ae (ai (Jp (eX 0 1) (a1 (eX 2 1))) (gN 5))
  (ae (ai (aj aB (aj aB (aj aB (aa 1) (eS "locks")) (aa 5)) (eI 1)) (gN 6))
  (ae (bW (mQ (eX 2 0) (eS "take")) (ae (fQ dM (aj aB (aa 1) (eS "locks")) (aa 5) (aq (a2 (eX 3 0) (aa 6))))
  (ae (bS (eM aG bq (aa 4) (a1 (eX 2 1))))
  (ay (aq (ab (eS "take") (a3 (eX 2 1) (eC .non) (aa 6))))))) cE)
  (ae (fQ dM (aj aB (aa 1) (eS "locks")) (aa 5) (aq (a2 (eC .non) (aa 3))))
  (ae (bS (eM mn bq (aa 4) (a1 (eX 2 1))))
  (ay (aq (ab (eS "free") (a3 (eX 2 1) (eC .non) (eC .non))))))))))
def c9:Df:=⟨["_law_program_here", "_law_state", "_law_row_here", "_law_event", "_law_held"],2,hI⟩
def iV :=
  (ae (bW (mQ (eX 2 0) (eS "send")) (ae (ai (Jp (eX 0 2) (a1 (eX 2 1))) (gN 4))
  (ae (ai (aj aB (aj aB (aa 1) (eS "lanes")) (aa 4)) (gT 3 (aA (gN 5) (aA (gN 6) (aA (gN 7) cw)))))
  (ae (ai (ag "_law_worth" (a2 (eX 2 2) (aa 3))) (gN 8))
  (ae (fQ dM (aj aB (aa 1) (eS "lanes")) (aa 4) (aq (ab (aj aU (aa 5) (eI 1)) (ab (aa 6) (ab (aj aU (aa 7) (aq (a1 (aa 8)))) ah)))))
  (ay (aq (ab (eS "send") (a3 (eX 2 1) (aa 8) (aa 5))))))))) cE)
  (ae (ai (Jp (eX 0 2) (a1 (eX 2 2))) (gN 4))
  (ae (ai (aj aB (aj aB (aa 1) (eS "lanes")) (aa 4)) (gT 3 (aA (gN 5) (aA (gN 6) (aA (gN 7) cw)))))
  (ae (fQ dM (aj aB (aa 1) (eS "lanes")) (aa 4) (aq (ab (aa 5) (ab (aj aU (aa 6) (eI 1)) (ab (q9 (aa 7) (cB (eI 1)) dS) ah)))))
  (ae (fQ dM (aa 3) (eX 2 1) (eX 7 0))
  (ay (aq (ab (eS "fetch") (a3 (eX 2 2) (eX 7 0) (aa 6))))))))))
def dQ:Df:=⟨["_law_program_here", "_law_state", "_law_row_here", "_law_pockets"],5,iV⟩
def mZ :=
  (ae (ai (aj aB (aj aB (aa 1) (eS "seats")) (aa 2)) (gT 3 (aA (gN 4) (aA (gN 5) (aA (gN 6) cw)))))
  (ae (ai (ag "_law_row" (a3 (aa 0) (aa 1) (aa 2))) (gN 7))
  (ae (ai (aq (ab (aa 2) (ab (aj aB (aj aB (aa 1) (eS "counts")) (aa 2)) ah))) (gN 8))
  (ae (bW (aF (aj jw (eX 7 0) (aq (a2 (eS "get") (eS "put"))))) (ai (ag "_law_boxed" (ab (aa 0) (ab (aa 1) (a3 (aa 7) (aa 8) (aa 5))))) (gN 9)) (bW (aF (aj jw (eX 7 0) (aq (a2 (eS "take") (eS "free"))))) (ai (ag "_law_locked" (ab (aa 0) (ab (aa 1) (a3 (aa 7) (aa 8) (aa 6))))) (gN 9)) (bW (aF (aj jw (eX 7 0) (aq (a2 (eS "send") (eS "fetch"))))) (ai (ag "_law_laned" (ab (aa 0) (a3 (aa 1) (aa 7) (aa 5)))) (gN 9)) (bW (mQ (eX 7 0) (eS "say")) (ae (ai (Jp (eX 0 3) (a1 (eX 7 1))) (gN 10))
  (ae (ai (aq (ab (eS "say") (ab (eX 7 1) (ab (ag "_law_worth" (a2 (eX 7 2) (aa 5))) (ab (aj aB (aj aB (aa 1) (eS "doors")) (aa 10)) ah))))) (gN 9))
  (fQ dM (aj aB (aa 1) (eS "doors")) (aa 10) (aj aU (aj aB (aj aB (aa 1) (eS "doors")) (aa 10)) (eI 1))))) (ae (fQ dM (aa 5) (eX 7 1) (aa 3))
  (ai (aq (ab (eX 7 0) (ab (vt (mQ (eX 7 0) (eS "hear")) (eX 7 2) (eS "")) (a2 (aa 3) (eC .non))))) (gN 9)))))))
  (ae (fQ dM (aj aB (aa 1) (eS "counts")) (aa 2) (aj aU (eX 8 1) (eI 1)))
  (ae (fQ dM (aj aB (aa 1) (eS "seats")) (aa 2) (aq (ab (ag "_law_rest" (ab (aj aB (aj aB (eX 0 4) (aa 2)) (eI 1)) (ab (aj aU (aa 4) (eI 1)) (a2 (aa 5) (aa 6))))) (a2 (aa 5) (aa 6)))))
  (ay (aa 9))))))))
def nQ:Df:=⟨["_law_program_here", "_law_state", "_law_hand", "_law_gift_here"],7,mZ⟩
def px :=
  (ay (je 1 (cO (ab (eB bV (a1 (eX 0 4))) ah)) (gN 2) (aF (xR (gA false) (ag "_law_wait" (a3 (aa 0) (aa 1) (aa 2))))) (aa 2)))
def iT:Df:=⟨["_law_program_here", "_law_state"],0,px⟩
def gP :=
  (ae (bW (aF (aj kA (eX 1 0) (aq (a3 (eS "clock") (eS "lot") (eS "hear"))))) (ay (eC .non)) cE)
  (ae (ai (vt (mQ (eX 1 0) (eS "lot")) (eX 1 2) (eI 1000)) (gN 2))
  (ay (aj aB (bD (ab (eI 0) (ab (aj rD (aa 2) (eI 1)) (ab (ag "_law_take" (a2 (aa 0) (aa 2))) (ab (ag "_law_take" (a2 (aa 0) (eI 2))) ah))))) (ag "_law_take" (a2 (aa 0) (eI 4)))))))
def dy:Df:=⟨["_law_box_here", "_law_row_here"],1,gP⟩
def iG :=
  (ae (ai (bD ah) (gN 4))
  (ae (ai (bD ah) (gN 5))
  (ae (ai (ag "_law_can" (a2 (aa 0) (aa 2))) (gN 6))
  (ae (uT (lT (aF (aj ke (aa 6) (bD ah))) (aF (aj BM (eB bV (a1 (aa 4))) (aa 3)))) (ae (ai (aj aB (aa 6) (ag "_law_take" (ab (aa 1) (ab (eB bV (a1 (aa 6))) ah)))) (gN 7))
  (ae (ai (ag "_law_gift" (ab (aa 1) (ab (ag "_law_row" (a3 (aa 0) (aa 2) (aa 7))) ah))) (gN 8))
  (ae (bS (eM aG bq (aa 4) (ab (aq (a2 (aa 7) (aa 8))) ah)))
  (ae (bS (eM aG bq (aa 5) (ab (aq (ab (aa 7) (ab (ag "_law_go" (ab (aa 0) (a3 (aa 2) (aa 7) (aa 8)))) ah))) ah)))
  (ai (ag "_law_can" (a2 (aa 0) (aa 2))) (gN 6)))))))
  (ay (aq (ab (eB bf (a1 (aa 4))) (ab (eB bf (a1 (aa 5))) ah))))))))
def iQ:Df:=⟨["_law_program_here", "_law_box_here", "_law_state", "_law_most"],5,iG⟩
def kl :=
  (ae (ai (eB jd (a1 (aa 0))) (gN 2))
  (ae (ai (bD ah) (gN 3))
  (ae (ja (jh (aa 1)) (gT 2 (aA (gN 4) (aA (gN 5) cw))) (ae (bS (eM aG bq (aa 3) (ab (aq (ab (aq (ab (aa 4) (ab (aj aB (aa 2) (aa 4)) ah))) (a1 (aa 5)))) ah)))
  (fQ dM (aa 2) (aa 4) (aj aU (aj aB (aa 2) (aa 4)) (eI 1)))))
  (ay (aa 3)))))
def eQ:Df:=⟨["_law_counts", "_law_looks"],4,kl⟩
def gv :=
  (ae (ai (je 1 (jh (eX 0 0)) (gN 10) aN (eX 10 0)) (gN 4))
  (ae (ja (jh (q9 (aa 0) (cB (eI 1)) (cB (eI 4)))) (gN 5) (ai (aj aU (aa 4) (eB jd (a1 (aa 5)))) (gN 4)))
  (ae (ja (jh (aj aU (aj aU (aa 4) (bD (ab (eS "") (ab (eS "p") (a3 (eS "get") (eS "Zz") (eS "a b")))))) (je 1 (jh (eX 0 4)) (gN 10) aN (eX 10 0)))) (gN 6) (ae (ai (je 2 (jh (aa 3)) (gT 2 (aA (gN 10) (aA (gN 11) cw))) (lT (aF (aj kb (eX 11 1) (aa 6))) (aF (aj ke (aa 6) (eS "")))) (aq (a2 (aa 10) (aa 11)))) (gN 7))
  (ja (cO (a1 (eI 2))) (gN 8) (ae (ai (ag "history" (ab (aa 0) (a3 (aa 1) (aa 2) (aa 6)))) (gN 9))
  (ae (bW (HV (nF (aF (eB nK (ab (aa 9) (ab (eC (.ty "list")) ah))))) (aF (aj ke (eB eG (a1 (aa 9))) (eB eG (a1 (aa 7)))))) (ay (eC (.bl false))) cE)
  (bS (eM aG bq (aa 9) (a1 (eC .non)))))))))
  (ay (eC (.bl true))))))
def gy:Df:=⟨["_law_program_here", "_law_stand", "_law_run", "_law_events_here"],6,gv⟩
def Fx :=
  (ae (ai (ag "_law_box" (a2 (aa 0) (eI 0))) (gN 1))
  (ae (ai (bD (ab (ag "_law_program" (a1 (aa 1))) (ab (ag "_law_program" (a1 (aa 1))) ah))) (gN 2))
  (ae (ja (jh (aa 2)) (gN 3) (ae (ai (ag "_law_first" (a1 (aa 3))) (gN 4))
  (ae (ai (ag "_law_drawn" (ab (aa 3) (ab (aa 1) (ab (aa 4) (ab (ag "_law_take" (a2 (aa 1) (eI 21))) ah))))) (gT 2 (aA (gN 5) (aA (gN 6) cw))))
  (ae (ai (ag "first_stand" (a1 (aa 3))) (gN 7))
  (ae (bW (nF (aF (ag "_law_is_told" (ab (aa 3) (ab (aa 7) (ab (aa 5) (ab (ag "_law_events" (ab (bD (ab (eI 0) (a3 (eI 0) (eI 0) (eI 0)))) (a1 (aa 6)))) ah))))))) (ay (eC (.bl false))) cE)
  (ae (ai (ag "_law_take" (ab (aa 1) (ab (aj aU (eB bV (a1 (aa 5))) (eI 1)) ah))) (gN 8))
  (ae (ai (aj aB (ag "walked" (ab (aa 3) (ab (aa 7) (ab (q9 (aa 5) dS (cB (aa 8))) ah)))) (eI 0)) (gN 9))
  (ae (ai (je 1 (cO (a1 (eI 4))) (gN 11) aN (eB bV (ab (je 1 (jh (q9 (aa 5) dS (cB (aa 8)))) (gN 12) (aF (aj kb (eX 12 0) (aa 11))) (aa 12)) ah))) (gN 10))
  (bW (nF (aF (ag "_law_is_told" (ab (aa 3) (ab (aa 9) (ab (q9 (aa 5) (cB (aa 8)) dS) (ab (ag "_law_events" (ab (aa 10) (ab (q9 (aa 6) (cB (aa 8)) dS) ah))) ah))))))) (ay (eC (.bl false))) cE)))))))))
  (ay (eC (.bl true))))))
def Dq:Df:=⟨["_law_script"],10,Fx⟩
structure bN(pg:Tb):Prop where
 yt:pg.fns "is_whole" =Wv iN
 uA:pg.fns "is_between" =Wv fJ
 zA:pg.fns "is_value" =Wv iY
 rX:pg.fns "is_tuple_of" =Wv eR
 oQ:pg.fns "worth" =Wv i7
 qU:pg.fns "joined_worth" =Wv dO
 zw:pg.fns "names_of" =Wv iS
 om:pg.fns "number_of" =Wv fj
 Cn:pg.fns "rows_of" =Wv j6
 u6:pg.fns "first_seat" =Wv fR
 En:pg.fns "rested" =Wv mE
 xB:pg.fns "is_rested" =Wv eY
 uQ:pg.fns "is_own_row" =Wv fH
 ni:pg.fns "behind_own_row" =Wv bP
 Oe:pg.fns "laid" =Wv qM
 ye:pg.fns "touch_of" =Wv gb
 rq:pg.fns "seat_behind" =Wv ck
 xW:pg.fns "may_come" =Wv fY
 rM:pg.fns "first_stand" =Wv eU
 yB:pg.fns "hands_of" =Wv iR
 zD:pg.fns "state_of" =Wv iO
 B8:pg.fns "wait_of" =Wv cP
 DE:pg.fns "gone" =Wv qi
 vV:pg.fns "due_touch" =Wv gQ
 uG:pg.fns "takes_gift" =Wv dX
 eF:pg.fns "meeting" =Wv cC
 qJ:pg.fns "with_hand_on" =Wv dY
 ub:pg.fns "with_state" =Wv fT
 yG:pg.fns "replaced" =Wv iW
 EU:pg.fns "walked" =Wv lF
 Ci:pg.fns "stepped" =Wv jZ
 sJ:pg.fns "history" =Wv iC
 uq:pg.fns "touches_of" =Wv fL
 sf:pg.fns "with_events" =Wv eV
 vA:pg.fns "events_by" =Wv gR
 qg:pg.fns "_law_box" =Wv gH
 nW:pg.fns "_law_take" =Wv fq
 gu:pg.fns "_law_sum" =Wv cI
 cq:pg.fns "_law_touch_row" =Wv bj
 vU:pg.fns "_law_rows" =Wv gX
 qm:pg.fns "_law_program" =Wv gq
 fO:pg.fns "_law_worth" =Wv aY
 su:pg.fns "_law_is_own" =Wv cD
 xF:pg.fns "_law_rest" =Wv ft
 uY:pg.fns "_law_first" =Wv iX
 yU:pg.fns "_law_row" =Wv gE
 wm:pg.fns "_law_wait" =Wv cj
 lP:pg.fns "_law_boxed" =Wv dP
 km:pg.fns "_law_locked" =Wv c9
 lB:pg.fns "_law_laned" =Wv dQ
 Cu:pg.fns "_law_go" =Wv nQ
 yW:pg.fns "_law_can" =Wv iT
 jx:pg.fns "_law_gift" =Wv dy
 ve:pg.fns "_law_drawn" =Wv iQ
 sF:pg.fns "_law_events" =Wv eQ
 pM:pg.fns "_law_is_told" =Wv gy
 Sy:pg.fns "law" =Wv Dq
 Ug:pg.con "SORTS" =Wv (.ktup [(.str "box"),(.str "lock"),(.str "lane"),(.str "door"),(.str "hand")])
 RD:pg.con "WORTHS" =Wv (.int 1000)
 CN:pg.con "MOST_OWN_ROWS" =Wv (.int 200)
 KL:pg.con "POCKETING" =Wv (.ktup [(.str "get"),(.str "fetch"),(.str "clock"),(.str "lot"),(.str "hear")])
 Sb:pg.con "COUNTS" =Wv (.int 0)
 Us:pg.con "SEATS" =Wv (.int 1)
 TK:pg.con "GIFTED" =Wv (.ktup [(.str "clock"),(.str "lot"),(.str "hear")])
 Gq:pg.con "MOST_STEPS" =Wv (.int 60)
 fm:pg.xG "ROW_PARTS" =Wv fm
 cz:pg.xG "PLACE_OF" =Wv cz
 gp:pg.xG "MET_SORT" =Wv gp
def fnT:=[("is_whole",iN),("is_between",fJ),("is_value",iY),("is_tuple_of",eR),("worth",i7),("joined_worth",dO),("names_of",iS),("number_of",fj),("rows_of",j6),("first_seat",fR),("rested",mE),("is_rested",eY),("is_own_row",fH),("behind_own_row",bP),("laid",qM),("touch_of",gb),("seat_behind",ck),("may_come",fY),("first_stand",eU),("hands_of",iR),("state_of",iO),("wait_of",cP),("gone",qi),("due_touch",gQ),("takes_gift",dX),("meeting",cC),("with_hand_on",dY),("with_state",fT),("replaced",iW),("walked",lF),("stepped",jZ),("history",iC),("touches_of",fL),("with_events",eV),("events_by",gR),("_law_box",gH),("_law_take",fq),("_law_sum",cI),("_law_touch_row",bj),("_law_rows",gX),("_law_program",gq),("_law_worth",aY),("_law_is_own",cD),("_law_rest",ft),("_law_first",iX),("_law_row",gE),("_law_wait",cj),("_law_boxed",dP),("_law_locked",c9),("_law_laned",dQ),("_law_go",nQ),("_law_can",iT),("_law_gift",dy),("_law_drawn",iQ),("_law_events",eQ),("_law_is_told",gy),("law",Dq)]
noncomputable def conT:List (Str × PV):=[("SORTS",(.ktup [(.str "box"),(.str "lock"),(.str "lane"),(.str "door"),(.str "hand")])),("WORTHS",(.int 1000)),("MOST_OWN_ROWS",(.int 200)),("POCKETING",(.ktup [(.str "get"),(.str "fetch"),(.str "clock"),(.str "lot"),(.str "hear")])),("COUNTS",(.int 0)),("SEATS",(.int 1)),("GIFTED",(.ktup [(.str "clock"),(.str "lot"),(.str "hear")])),("MOST_STEPS",(.int 60))]
def dcT:List (Str × List (Key × PV)):=[("ROW_PARTS",fm),("PLACE_OF",cz),("MET_SORT",gp)]
def tb:Tb:=⟨λf=>(fnT.find? λp=>p.1 == f).map (·.2),λx=>(conT.find? λp=>decide (p.1=x)).map (·.2),λx=>(dcT.find? λp=>decide (p.1=x)).map (·.2)⟩
theorem aL{l:List (String × Df)}(nd:(l.map (·.1)).Nodup)(i:Nat)(e:l[i]?=Wv (f,d)):(l.find? λp=>p.1 == f).map (·.2)=Wv d:=by
 induction l generalizing i d with
 | nil=>cases e
 | cons x l ih =>
  rw[WH,Y9] at nd
  cases i with
  | zero =>
   cases e
   rw[List.find?_cons_of_pos (by simp)];rfl
  | succ i =>
   rw[XD] at e
   have m:=WL e
   have ne: ¬ (x.1 == f)=true:=λz=>nd.1 (by rw[beq_iff_eq.mp z];exact Xk.mpr ⟨_,m,rfl⟩)
   rw[List.find?_cons_of_neg (p:=λp:String × Df=>p.1 == f) ne]
   exact ih nd.2 i e
theorem aK:(fnT.map (·.1)).Nodup:=by decide +kernel
theorem has:bN tb:=⟨aL aK 0 rfl,aL aK 1 rfl,aL aK 2 rfl,aL aK 3 rfl,aL aK 4 rfl,aL aK 5 rfl,aL aK 6 rfl,aL aK 7 rfl,aL aK 8 rfl,aL aK 9 rfl,aL aK 10 rfl,aL aK 11 rfl,aL aK 12 rfl,aL aK 13 rfl,aL aK 14 rfl,aL aK 15 rfl,aL aK 16 rfl,aL aK 17 rfl,aL aK 18 rfl,aL aK 19 rfl,aL aK 20 rfl,aL aK 21 rfl,aL aK 22 rfl,aL aK 23 rfl,aL aK 24 rfl,aL aK 25 rfl,aL aK 26 rfl,aL aK 27 rfl,aL aK 28 rfl,aL aK 29 rfl,aL aK 30 rfl,aL aK 31 rfl,aL aK 32 rfl,aL aK 33 rfl,aL aK 34 rfl,aL aK 35 rfl,aL aK 36 rfl,aL aK 37 rfl,aL aK 38 rfl,aL aK 39 rfl,aL aK 40 rfl,aL aK 41 rfl,aL aK 42 rfl,aL aK 43 rfl,aL aK 44 rfl,aL aK 45 rfl,aL aK 46 rfl,aL aK 47 rfl,aL aK 48 rfl,aL aK 49 rfl,aL aK 50 rfl,aL aK 51 rfl,aL aK 52 rfl,aL aK 53 rfl,aL aK 54 rfl,aL aK 55 rfl,aL aK 56 rfl,rfl,rfl,rfl,rfl,rfl,rfl,rfl,rfl,rfl,rfl,rfl⟩
local macro_rules
 | `(tactic| array_get_dec)=> do
  let tm (x:String):Lean.MacroM Lean.Term:=match x with
   | "?"=>`(?_)
   | "_"=>`(_)
   | "A"=>`(by assumption)
   | "R"=>`(rfl)
   | "F"=>`(λ_ _=>rfl)
   | "K"=>`(by decide +kernel)
   | "D"=>`(by decide)
   | "Q"=>`(⟨rfl,rfl,rfl,rfl⟩)
   | "L"=>`(λ_ _ _ _ _ _=>⟨λ_=>?_,?_,?_⟩)
   | "O"=>`(by first | exact ad5 rfl | exact acS rfl)
   | "Z"=>`(by intro z;cases z)
   | "w"=>`(Eo _)
   | x=>pure (Lean.mkIdent x.toName)
  let al (a:String):Lean.MacroM (Lean.TSyntax `tactic):=do
   match a.splitOn " " with
   | ["p",q,n]=>`(tactic| refine $(Lean.mkIdent q.toName) ($(Lean.mkIdent n.toName) ?_ ?_))
   | [n]=>`(tactic| refine $(Lean.mkIdent n.toName))
   | n::r=>do
     let ts ← r.toArray.mapM tm
     `(tactic| refine $(Lean.mkIdent n.toName) $ts*)
   | []=>Lean.Macro.throwUnsupported
  let fs (x:List (Lean.TSyntax `tactic)):Lean.MacroM (Lean.TSyntax `tactic):=do
   let e ← `(tactic| fail)
   x.foldrM (λa b=>`(tactic| first | $a:tactic | $b:tactic)) e
  let gr (g:String):Lean.MacroM (Lean.TSyntax `tactic):=do
   match g.splitOn ":" with
   | [h,b]=>do
     let y ← fs (← (b.splitOn "|").mapM al)
     match h.splitOn " " with
     | [n,k]=>do
       let hs ← (Array.range k.toNat!).mapM λ_=>`(_)
       `(tactic| (show $(Lean.mkIdent n.toName) $hs*;$y:tactic))
     | _=>Lean.Macro.throwUnsupported
   | _=>Lean.Macro.throwUnsupported
  let a ← ("JE 5:OJ _|OH|Ou|Nh|Tp|QX UZ ? ? F|H9 A R ?|Tz ? ? ?|Ct R R ?|IF R R ? ?|BU A R ?|B1 ? ?|Nd ?|O2 ?|FV ? ? ? w|FV ? ? ? R|ND ?|Fv ? ? ? ? ?|Mj ?|PQ ? ?|Sn ? ?|LP ?|DW ? ? ?|IG A R ? F|EN ? ? ?|Fm|J0 ? R R Z D|Jn ? ? ? Q|M0 ? L|Nz ? L|Oy A R|Dc SU R K PySem.boot_len ?|Dc Qw R K boot_isinstance ?|Dc Qn R K boot_all ?|Dc Bg R K boot_sorted ?|J9 RB R K boot_int ?|J9 GO R K boot_tuple ?|J9 Po R K boot_list ?|J9 LJ R K boot_dict ?|Dc Io R K boot_repr ?|wR R K boot_int|wR R K boot_bool|wR R K boot_list|wR R K boot_tuple|wR R K boot_dict|Pt PySem.F.plainAttrs_list PySem.F.slot_list_append PySem.F.type_list_append EK ? ?|Pt PySem.F.plainAttrs_list PySem.F.slot_list_remove PySem.F.type_list_remove Ff ? ?|Pt PySem.F.plainAttrs_list PySem.F.slot_list_index PySem.F.type_list_index Ek ? ?#JA 5:O9|GN ? ?#BR 5:HB|Gy ?|E8 ? ?#JS 5:LK A ? L|Mv A ? L|LL A R O ?|Hd ? ? ?|R7 ? ? ?|NL ?|JK ?|MU Ll ? ? ?|NU ? ?|LC ? ? ? PassesOwn.never|Ey ? ? PassesOwn.never|OO ?|DY#JT 5:Eh ? ? ? w|Eh ? ? ? R|LY ?|Jr ?|p JW.pt Fs|p JW.pt KJ|P8 ?|Nr ?#JW 5:Fs ? ?|KJ ? ?|HL ?|MK ?#JO 5:JJ|IJ ?#JP 7:NJ|GA ? ? ?#JG 5:Jz A R O|M9 ?#Q7 5:GD|F0 ? ?#JI 6:Bq R ?|MQ R ? ?|JL R ?|HC A R|Pa ?#JF 5:PY|Ol ?#QG 3:Ai A R O|J5 A ?#L3 3:zU|wd ? ?".splitOn "#").mapM gr
  let b ← ("Rr|LN|Qx|Pr|Qu|QZ|UM|UX|U6|U9|Vk|US|UN|Ir".splitOn "|").mapM al
  let t ← fs (a++b)
  `(tactic| repeat' first | $t:tactic | fail)
local macro_rules
 | `(tactic| clean_wf)=> `(tactic| (refine aT.on (by assumption) ⟨rfl,rfl,rfl,by decide +kernel,rfl,by decide +kernel,by decide +kernel⟩ rfl (λ_ _ _ _ _ _=>by first | exact VL λ_=>rfl | exact V0 λ_ _=>rfl | exact VU λ_ _ _=>rfl | exact VM λ_ _ _ _=>rfl | exact Wi λ_ _ _ _ _=>rfl) λ_ _ _ _ _ _ _ _ _ _=>?_;obtain⟨⟩:= ‹bN _›; array_get_dec))
section
variable {P:Xy} {w:X0} {K:Wz} {mg:Str->Option WC} {pg:Tb}
theorem xK(T:bN pg)(a:At K mg "is_whole" (top 5)):aT P w K mg pg "is_whole" iN (top 5) ["thing"]:=by clean_wf
theorem vk(T:bN pg)(a:At K mg "is_between" (top 6)):aT P w K mg pg "is_between" fJ (top 6) ["thing", "least", "most"]:=by clean_wf
theorem zM(T:bN pg)(a:At K mg "is_value" (top 7)):aT P w K mg pg "is_value" iY (top 7) ["thing"]:=by clean_wf
theorem sk(T:bN pg)(a:At K mg "is_tuple_of" (top 8)):aT P w K mg pg "is_tuple_of" eR (top 8) ["thing", "many"]:=by clean_wf
theorem Hh(T:bN pg)(a:At K mg "worth" (top 13)):aT P w K mg pg "worth" i7 (top 13) ["tree", "pockets", "word", "one"]:=by clean_wf
theorem qh(T:bN pg)(a:At K mg "joined_worth" (top 14)):aT P w K mg pg "joined_worth" dO (top 14) ["word", "one", "other"]:=by clean_wf
theorem zp(T:bN pg)(a:At K mg "names_of" (top 16)):aT P w K mg pg "names_of" iS (top 16) ["program", "sort", "ones"]:=by
 have z0:(mP ["program", "sort", "ones"] ["one"]).Nodup:=by decide +kernel
 clean_wf
theorem xg(T:bN pg)(a:At K mg "number_of" (top 17)):aT P w K mg pg "number_of" fj (top 17) ["program", "sort", "name", "names"]:=by clean_wf
theorem Ck(T:bN pg)(a:At K mg "rows_of" (top 18)):aT P w K mg pg "rows_of" j6 (top 18) ["program", "hand"]:=by clean_wf
theorem vd(T:bN pg)(a:At K mg "first_seat" (top 22)):aT P w K mg pg "first_seat" fR (top 22) ["program", "hand"]:=by clean_wf
theorem Fp(T:bN pg)(a:At K mg "rested" (top 23)):aT P w K mg pg "rested" mE (top 23) ["program", "hand", "seat", "rows", "here", "turn"]:=by clean_wf
theorem xp(T:bN pg)(a:At K mg "is_rested" (top 24)):aT P w K mg pg "is_rested" eY (top 24) ["rows", "seat"]:=by clean_wf
theorem t6(T:bN pg)(a:At K mg "is_own_row" (top 25)):aT P w K mg pg "is_own_row" fH (top 25) ["row", "held"]:=by clean_wf
theorem nc(T:bN pg)(a:At K mg "behind_own_row" (top 26)):aT P w K mg pg "behind_own_row" bP (top 26) ["row", "seat", "onward"]:=by clean_wf
theorem N6(T:bN pg)(a:At K mg "laid" (top 27)):aT P w K mg pg "laid" qM (top 27) ["pockets", "name", "value", "others"]:=by
 have z0:(mP ["pockets", "name", "value", "others"] ["pocket"]).Nodup:=by decide +kernel
 clean_wf
theorem yF(T:bN pg)(a:At K mg "touch_of" (top 28)):aT P w K mg pg "touch_of" gb (top 28) ["program", "hand", "seat", "rows", "row", "thing", "value", "part", "entry"]:=by clean_wf
theorem rU(T:bN pg)(a:At K mg "seat_behind" (top 29)):aT P w K mg pg "seat_behind" ck (top 29) ["program", "hand", "seat", "value", "row", "pockets", "held"]:=by
 have z0:(mP ["program", "hand", "seat", "value", "row", "pockets", "held"] ["lock"]).Nodup:=by decide +kernel
 clean_wf
theorem zr(T:bN pg)(a:At K mg "may_come" (top 30)):aT P w K mg pg "may_come" fY (top 30) ["touch", "value"]:=by clean_wf
theorem rP(T:bN pg)(a:At K mg "first_stand" (top 35)):aT P w K mg pg "first_stand" eU (top 35) ["program", "hands"]:=by
 have z0:(mP ["program", "hands"] ["hand"]).Nodup:=by decide +kernel
 have z1:(mP ["program", "hands"] ["box"]).Nodup:=by decide +kernel
 have z2:(mP ["program", "hands"] ["lock"]).Nodup:=by decide +kernel
 have z3:(mP ["program", "hands"] ["lane"]).Nodup:=by decide +kernel
 have z4:(mP ["program", "hands"] ["door"]).Nodup:=by decide +kernel
 clean_wf
theorem yi(T:bN pg)(a:At K mg "hands_of" (top 36)):aT P w K mg pg "hands_of" iR (top 36) ["program"]:=by clean_wf
theorem yE(T:bN pg)(a:At K mg "state_of" (top 37)):aT P w K mg pg "state_of" iO (top 37) ["program", "stand", "sort", "name"]:=by clean_wf
theorem BO(T:bN pg)(a:At K mg "wait_of" (top 38)):aT P w K mg pg "wait_of" cP (top 38) ["program", "stand", "hand", "touch", "holder"]:=by clean_wf
theorem LR(T:bN pg)(a:At K mg "gone" (top 42)):aT P w K mg pg "gone" qi (top 42) ["program", "stand", "hand", "gift", "touch", "kind", "thing", "sort", "met", "behind"]:=by clean_wf
theorem wo(T:bN pg)(a:At K mg "due_touch" (top 43)):aT P w K mg pg "due_touch" gQ (top 43) ["program", "stand", "hand", "gift", "wait", "touch"]:=by clean_wf
theorem tX(T:bN pg)(a:At K mg "takes_gift" (top 44)):aT P w K mg pg "takes_gift" dX (top 44) ["touch", "gift"]:=by clean_wf
theorem A6(T:bN pg)(a:At K mg "meeting" (top 45)):aT P w K mg pg "meeting" cC (top 45) ["touch", "event", "state", "kind", "value"]:=by clean_wf
theorem qX(T:bN pg)(a:At K mg "with_hand_on" (top 46)):aT P w K mg pg "with_hand_on" dY (top 46) ["program", "stand", "hand", "value", "seat", "counted"]:=by clean_wf
theorem uH(T:bN pg)(a:At K mg "with_state" (top 47)):aT P w K mg pg "with_state" fT (top 47) ["program", "stand", "sort", "name", "state", "place"]:=by clean_wf
theorem yR(T:bN pg)(a:At K mg "replaced" (top 48)):aT P w K mg pg "replaced" iW (top 48) ["parts", "place", "part"]:=by clean_wf
theorem D5(T:bN pg)(a:At K mg "walked" (top 51)):aT P w K mg pg "walked" lF (top 51) ["program", "stand", "run", "here", "touches", "place", "step", "told"]:=by clean_wf
theorem Cp(T:bN pg)(a:At K mg "stepped" (top 52)):aT P w K mg pg "stepped" jZ (top 52) ["program", "stand", "place", "step", "refusal"]:=by clean_wf
theorem AZ(T:bN pg)(a:At K mg "history" (top 53)):aT P w K mg pg "history" iC (top 53) ["program", "stand", "run", "name", "touches"]:=by
 have z0:(mP ["program", "stand", "run", "name", "touches"] ["sort"]).Nodup:=by decide +kernel
 have z1:(mP ["program", "stand", "run", "name", "touches"] ["touch"]).Nodup:=by decide +kernel
 clean_wf
theorem ue(T:bN pg)(a:At K mg "touches_of" (top 54)):aT P w K mg pg "touches_of" fL (top 54) ["program", "stand", "run"]:=by clean_wf
theorem rY(T:bN pg)(a:At K mg "with_events" (top 55)):aT P w K mg pg "with_events" eV (top 55) ["stand", "touches", "events"]:=by
 have z0:(mP ["stand", "touches", "events"] ["hand", "look"]).Nodup:=by decide +kernel
 clean_wf
theorem w9(T:bN pg)(a:At K mg "events_by" (top 56)):aT P w K mg pg "events_by" gR (top 56) ["stand", "hands", "counts", "events", "hand"]:=by clean_wf
theorem zE(T:bN pg)(a:At K mg "_law_box" (top 58)):aT P w K mg pg "_law_box" gH (top 58) ["_law_script", "_law_k", "_law_cell"]:=by clean_wf
theorem wI(T:bN pg)(a:At K mg "_law_take" (top 59)):aT P w K mg pg "_law_take" fq (top 59) ["_law_box_here", "_law_many", "_law_found", "_law_mixed"]:=by clean_wf
theorem zB(T:bN pg)(a:At K mg "_law_sum" (top 60)):aT P w K mg pg "_law_sum" cI (top 60) ["_law_box_here", "_law_pockets", "_law_deep", "_law_way", "_law_word"]:=by clean_wf
theorem nq(T:bN pg)(a:At K mg "_law_touch_row" (top 61)):aT P w K mg pg "_law_touch_row" bj (top 61) ["_law_box_here", "_law_names", "_law_pockets", "_law_kinds", "_law_kind", "_law_pocket", "_law_sort", "_law_thing"]:=by clean_wf
theorem vP(T:bN pg)(a:At K mg "_law_rows" (top 62)):aT P w K mg pg "_law_rows" gX (top 62) ["_law_box_here", "_law_names", "_law_pockets", "_law_kinds", "_law_sort", "_law_more", "_law_many", "_law_rows_here", "_law_k", "_law_way"]:=by clean_wf
theorem qS(T:bN pg)(a:At K mg "_law_program" (top 63)):aT P w K mg pg "_law_program" gq (top 63) ["_law_box_here", "_law_pool", "_law_turn", "_law_names", "_law_sort", "_law_many", "_law_boxes", "_law_hands", "_law_k", "_law_pockets"]:=by
 have z0:(mP ["_law_box_here", "_law_pool", "_law_turn", "_law_names", "_law_sort", "_law_many", "_law_boxes", "_law_hands", "_law_k", "_law_pockets"] ["_law_name"]).Nodup:=by decide +kernel
 clean_wf
theorem tZ(T:bN pg)(a:At K mg "_law_worth" (top 64)):aT P w K mg pg "_law_worth" aY (top 64) ["_law_e", "_law_pockets", "_law_one", "_law_other"]:=by clean_wf
theorem sj(T:bN pg)(a:At K mg "_law_is_own" (top 65)):aT P w K mg pg "_law_is_own" cD (top 65) ["_law_row_here", "_law_held"]:=by clean_wf
theorem wO(T:bN pg)(a:At K mg "_law_rest" (top 66)):aT P w K mg pg "_law_rest" ft (top 66) ["_law_rows_here", "_law_at", "_law_pockets", "_law_held", "_law_gone_over", "_law_row_here"]:=by clean_wf
theorem uL(T:bN pg)(a:At K mg "_law_first" (top 67)):aT P w K mg pg "_law_first" iX (top 67) ["_law_program_here", "_law_state", "_law_hand", "_law_pockets", "_law_at"]:=by
 have z0:(mP ["_law_program_here", "_law_state", "_law_hand", "_law_pockets", "_law_at"] ["_law_name"]).Nodup:=by decide +kernel
 have z1:(mP ["_law_program_here", "_law_state", "_law_hand", "_law_pockets", "_law_at"] ["_law_one"]).Nodup:=by decide +kernel
 clean_wf
theorem y7(T:bN pg)(a:At K mg "_law_row" (top 68)):aT P w K mg pg "_law_row" gE (top 68) ["_law_program_here", "_law_state", "_law_hand", "_law_rows_here", "_law_at"]:=by clean_wf
theorem wB(T:bN pg)(a:At K mg "_law_wait" (top 69)):aT P w K mg pg "_law_wait" cj (top 69) ["_law_program_here", "_law_state", "_law_hand", "_law_row_here", "_law_holder"]:=by clean_wf
theorem uM(T:bN pg)(a:At K mg "_law_boxed" (top 70)):aT P w K mg pg "_law_boxed" dP (top 70) ["_law_program_here", "_law_state", "_law_row_here", "_law_event", "_law_pockets", "_law_value", "_law_mark", "_law_place"]:=by
 have z0:(mP ["_law_program_here", "_law_state", "_law_row_here", "_law_event", "_law_pockets", "_law_value", "_law_mark", "_law_place"] ["_law_one"]).Nodup:=by decide +kernel
 clean_wf
theorem sD(T:bN pg)(a:At K mg "_law_locked" (top 71)):aT P w K mg pg "_law_locked" c9 (top 71) ["_law_program_here", "_law_state", "_law_row_here", "_law_event", "_law_held", "_law_place", "_law_mark"]:=by clean_wf
theorem t8(T:bN pg)(a:At K mg "_law_laned" (top 72)):aT P w K mg pg "_law_laned" dQ (top 72) ["_law_program_here", "_law_state", "_law_row_here", "_law_pockets", "_law_place", "_law_sent", "_law_fetched", "_law_letters", "_law_value"]:=by clean_wf
theorem Cy(T:bN pg)(a:At K mg "_law_go" (top 73)):aT P w K mg pg "_law_go" nQ (top 73) ["_law_program_here", "_law_state", "_law_hand", "_law_gift_here", "_law_at", "_law_pockets", "_law_held", "_law_row_here", "_law_event", "_law_look", "_law_place"]:=by clean_wf
theorem xN(T:bN pg)(a:At K mg "_law_can" (top 74)):aT P w K mg pg "_law_can" iT (top 74) ["_law_program_here", "_law_state"]:=by
 have z0:(mP ["_law_program_here", "_law_state"] ["_law_hand"]).Nodup:=by decide +kernel
 clean_wf
theorem vO(T:bN pg)(a:At K mg "_law_gift" (top 75)):aT P w K mg pg "_law_gift" dy (top 75) ["_law_box_here", "_law_row_here", "_law_most"]:=by clean_wf
theorem uW(T:bN pg)(a:At K mg "_law_drawn" (top 76)):aT P w K mg pg "_law_drawn" iQ (top 76) ["_law_program_here", "_law_box_here", "_law_state", "_law_most", "_law_run", "_law_looks", "_law_can_here", "_law_hand", "_law_gift_here"]:=by clean_wf
theorem sG(T:bN pg)(a:At K mg "_law_events" (top 77)):aT P w K mg pg "_law_events" eQ (top 77) ["_law_counts", "_law_looks", "_law_made", "_law_found", "_law_hand", "_law_look"]:=by clean_wf
theorem qZ(T:bN pg)(a:At K mg "_law_is_told" (top 78)):aT P w K mg pg "_law_is_told" gy (top 78) ["_law_program_here", "_law_stand", "_law_run", "_law_events_here", "_law_names", "_law_some", "_law_name", "_law_due", "_law_k", "_law_found"]:=by
 have z0:(mP ["_law_program_here", "_law_stand", "_law_run", "_law_events_here", "_law_names", "_law_some", "_law_name", "_law_due", "_law_k", "_law_found"] ["_law_one"]).Nodup:=by decide +kernel
 have z1:(mP ["_law_program_here", "_law_stand", "_law_run", "_law_events_here", "_law_names", "_law_some", "_law_name", "_law_due", "_law_k", "_law_found"] ["_law_hand"]).Nodup:=by decide +kernel
 have z2:(mP ["_law_program_here", "_law_stand", "_law_run", "_law_events_here", "_law_names", "_law_some", "_law_name", "_law_due", "_law_k", "_law_found"] ["_law_event", "_law_look"]).Nodup:=by decide +kernel
 clean_wf
theorem Ld(T:bN pg)(a:At K mg "law" (top 79)):aT P w K mg pg "law" Dq (top 79) ["_law_script", "_law_box_here", "_law_programs", "_law_program_here", "_law_state", "_law_run", "_law_looks", "_law_first_here", "_law_place", "_law_amid", "_law_counts"]:=by
 have z0:(mP ["_law_script", "_law_box_here", "_law_programs", "_law_program_here", "_law_state", "_law_run", "_law_looks", "_law_first_here", "_law_place", "_law_amid", "_law_counts"] ["_law_hand"]).Nodup:=by decide +kernel
 have z1:(mP (mP ["_law_script", "_law_box_here", "_law_programs", "_law_program_here", "_law_state", "_law_run", "_law_looks", "_law_first_here", "_law_place", "_law_amid", "_law_counts"] ["_law_hand"]) ["_law_one"]).Nodup:=by decide +kernel
 clean_wf
end
end K26
end
section
open PySem L2 P3
local macro_rules
 | `(tactic| simp? [$ls,*])=> `(tactic| simp? (disch:=omega) only [$ls,*])
 | `(tactic| simp? (disch:= $t) only [$ls,*])=> do
  let xs ← ("↓Gb ↓Rh ↓Sl Rj ↓SN Mm Lw ↓KR C6 ↓Lb MB P4 ↓RE Pq Ot L7 ↓Lg Eg ↓RU ↓De AO ↓Vo Px ↓Od Il Hr Hl ↓QJ O6 PZ NF ↓NC GJ ↓Qq NT LV NZ MM ↓NA ↓GF Ec F5 ET EF ↓PD GG Ig Ik GY ↓Ip Dt ↓Jg ↓Kn ↓Ex Cf CC ↓OU GX ↓N7 HN zI ↓IB ↓Vd ↓Uz ↓TH NV NY Hz IS Ii ↓Dj An Hn HR Jx ↓Rp ↓G8 FJ ↓OV Jj ↓NN Kl IW HZ HY ↓MZ JQ Kg Py KP LI Nt Oh L9 Rf Nx M5 ↓Ni Kd Hx IM PM ↓uZ oR D6 ↓EC Mp Pp pe tY Mg ↓yn uX ↓OA Gu F2 Dl ↓SX PR LZ Qz OM Ke Jw JY Gw Pe dc Et jG Km oA List.getElem?_cons_zero List.getElem?_cons_succ List.set_cons_zero List.set_cons_succ List.map_cons List.map_nil List.cons_append List.nil_append List.replicate_succ List.replicate_zero List.length_cons List.length_nil GZ Kh lA HK FF HA HU N1 OF OQ PX Kr Jy GV Kt qq jf vI Bc uE MV xl U2 yK QU Jd AJ FL GW len_T Mq Si ↓MD GU FC Ha HM Fu KI L5 l8 N3 Na ↓Dr aR aM fW pb oS lg vY qy DX Aq ↓Q4 Lv LG ↓Rk ↓Su Ly FT Vj Qo List.append_assoc List.length_append yr zZ in_K ↓Sz O8 Sx Sa KZ LX cQ decide_true decide_false Bool.not_true Bool.not_false if_true if_false reduceIte ite_self Bool.false_eq_true String.reduceEq String.reduceNe reduceCtorEq Int.reduceEq Int.reduceNe Int.reduceLT Int.reduceLE Int.reduceSub Int.reduceAdd Int.reduceMul Int.reduceToNat Int.reduceNeg".splitOn " ").toArray.mapM λw=>if w.startsWith "↓" then `(Lean.Parser.Tactic.simpLemma| ↓$(Lean.mkIdent (w.drop 1).toName):term) else `(Lean.Parser.Tactic.simpLemma| $(Lean.mkIdent w.toName):term)
  let ys : Lean.TSyntaxArray [`Lean.Parser.Tactic.simpStar,`Lean.Parser.Tactic.simpErase,`Lean.Parser.Tactic.simpLemma] := ls.getElems ++ xs.map (λx=>⟨x.raw⟩)
  `(tactic| simp (disch:= $t) only [$ys,*])
section
set_option maxHeartbeats 1000000
namespace K26
inductive Bo where | add | sub | mul | less | same
 deriving DecidableEq
noncomputable def Bo.w:Bo->Str
 | .add=> "add" | .sub=> "sub" | .mul=> "mul" | .less=> "less" | .same=> "same"
noncomputable def Bo.f:Bo->Int->Int->Int
 | .add,a,b=>(a+b) % 1000
 | .sub,a,b=>(a - b) % 1000
 | .mul,a,b=>a*b % 1000
 | .less,a,b=>if a < b then 1 else 0
 | .same,a,b=>if a=b then 1 else 0
inductive Sm where
 | num (n:Int) | of (x:Str) | un (a:Sm) | bin (o:Bo) (a b:Sm)
def iF:Sm->PV
 | .num n=> .tup [.str "num",.int n]
 | .of x=> .tup [.str "of",.str x]
 | .un a=> .tup [.str "not",iF a]
 | .bin o a b=> .tup [.str o.w,iF a,iF b]
def Sm.dp:Sm->Nat
 | .num _=>1 | .of _=>1 | .un a=>a.dp+1 | .bin _ a b=>max a.dp b.dp+1
def Sm.ok:Sm->Prop
 | .num n=>0<=n/\n<=999 | .of _=>True | .un a=>a.ok | .bin _ a b=>a.ok/\b.ok
def Sm.val(f:Str->Int):Sm->Int
 | .num n=>n
 | .of x=>f x
 | .un a=>if a.val f=0 then 1 else 0
 | .bin o a b=>o.f (a.val f) (b.val f)
theorem Sm.ny(hf : ∀ x, 0 <= f x /\ f x <= 999) : ∀ e : Sm, e.ok -> 0 <= e.val f /\ e.val f <= 999
  | .num n, h => h
  | .of x, _ => hf x
  | .un a, _ => by unfold Sm.val; split <;> omega
  | .bin o a b, _ => by
    unfold Sm.val Bo.f;cases o <;> simp only <;> first
      | (split <;> omega)
      | exact ⟨ZG _ (by decide), by omega⟩
      | exact ⟨ZG _ (by decide), by omega⟩
      | exact ⟨ZG _ (by decide), by omega⟩
theorem fg: ∀ e ,(iF e).flat=true
 | .num n=>rfl
 | .of x=>rfl
 | .un a=>by simp[iF,PV.flat,PV.bo,fg a]
 | .bin o a b=>by simp[iF,PV.flat,PV.bo,fg a,fg b]
abbrev Pk:=List (Str × Int)
def xx(ps:Pk):PV:= .tup (ps.map d8)
noncomputable def fP:Pk->Str->Int
 | [],_=>0
 | q::r,x=>if q.1=x then q.2 else fP r x
structure Wn(ps:Pk):Prop where
 VZ:(ps.map (·.1)).Pairwise jU
 mem: ∀ q∈ps,1<=q.2/\q.2<=999
 len:ps.length<=20
theorem xi: ∀{ps},(∀ q∈ps,1<=q.2/\q.2<=999)-> ∀ x,0<=fP ps x/\fP ps x<=999
 | [],_,x=>by simp[fP]
 | q::r,h,x=>by
  unfold fP;split
  . have:=h q WW;omega
  . exact xi (λz hz=>h z (WY _ hz)) x
theorem jq: ∀(ps:Pk),PV.bo (ps.map d8)=true
 | []=>rfl
 | q::r=>by simp[PV.bo,d8,PV.flat,jq r]
noncomputable def fh(ps:Pk):List (Key × PV):=ps.map λq=>(.inr q.1,.int q.2)
theorem wH: ∀ ps,jF (ps.map d8)=Wv (fh ps)
 | []=>rfl
 | q::r=>by simp[jF,d8,pairP?,iI,wH r,fh]
theorem ze: ∀ ps x,(cx (fh ps) (.inr x)).getD (.int 0)= .int (fP ps x)
 | [],x=>rfl
 | q::r,x=>by
  unfold fP fh;rw[WH];by_cases e:q.1=x
  . rw[if_pos e,e,AJ];rfl
  . rw[if_neg e,Fi (by simpa using e)];exact ze r x
theorem Im: ∀{kvs k v},k ∉ kvs.map (λkv:Key × PV=>kv.1)->iA kvs k v=kvs++[(k,v)]:=by
 intro kvs k v h;unfold iA;rw[if_neg];simp only[aea,decide_eq_true_eq,not_exists,not_and];exact λx hx e=>h (Xk.mpr ⟨x,hx,e⟩)
theorem xq: ∀ more acc,((acc++more).map (λkv:Key × PV=>kv.1)).Nodup->cm acc more=acc++more
 | [],acc,_=>by simp[cm]
 | p::r,acc,h=>by
  have h2:p.1 ∉ acc.map (λkv:Key × PV=>kv.1):=by
   rw[Xl,ZM] at h;intro m;exact h.2.2 p.1 m p.1 (by simp) rfl
  show cm (iA acc p.1 p.2) r=_;rw [Im h2,xq r _ (by simpa using h)];simp
theorem FK(nd : (ps.map (·.1)).Nodup) : cm [] (fh ps) = fh ps := by
  rw [xq _ _ ?_]; · rfl
  have e : ([] ++ fh ps).map (λkv : Key × PV => kv.1) = (ps.map (·.1)).map (YQ (α := Int)) := by unfold fh; rw [XF, XB, XB]; rfl
  rw [e];exact List.Pairwise.map _ (λa b z e => z (aeb e)) nd
section
variable {pg:Tb} (T:bN pg)
include T
theorem RI k (o:Bo) a b h (ha:0<=a/\a<=999):run pg (k+1) "joined_worth" [.str o.w,.int a,.int b] h= .ok (.int (o.f a b)) h:=by
 rw[run_eq T.qU rfl];cases o<;>simp? [dO,jk,Bo.w,Bo.f]
 all_goals split<;>rfl
theorem jJ h (nd:(ps.map (·.1)).Nodup) (hm: ∀ q∈ps,1<=q.2/\q.2<=999) (hl:ps.length<=1000): ∀ e k,e.ok->e.dp<=k->run pg (k+1) "worth" [iF e,xx ps] h= .ok (.int (e.val (fP ps))) h
 | .num n,k,ho,hk=>by
  rw[run_eq T.oQ rfl];simp? [i7,lZ,iF,Sm.val]
 | .of x,k,ho,hk=>by
  rw[run_eq T.oQ rfl];have hz:(ps.map d8).length < 16777216:=by rw[Wy];omega
  simp? [i7,lZ,iF,xx,Sm.val,wH,FK nd,ze];exact bU rfl
 | .un a,k,ho,hk=>by
  obtain⟨k,rfl⟩: ∃ j,k=j+1:=⟨k - 1,by unfold Sm.dp at hk;omega⟩
  have ih:=jJ h nd hm hl a k ho (by unfold Sm.dp at hk;omega);rw[run_eq T.oQ rfl];simp? [i7,lZ,iF,Sm.val,ih];split<;>rfl
 | .bin o a b,k,ho,hk=>by
  obtain⟨k,rfl⟩: ∃ j,k=j+1:=⟨k - 1,by unfold Sm.dp at hk;omega⟩
  have ih1:=jJ h nd hm hl a k ho.1 (by unfold Sm.dp at hk;omega);have ih2:=jJ h nd hm hl b k ho.2 (by unfold Sm.dp at hk;omega);have ij:=RI T k o (a.val (fP ps)) (b.val (fP ps)) h (Sm.ny (xi hm) a ho.1);rw[run_eq T.oQ rfl];cases o<;>(simp only[Bo.w] at ij;simp? [i7,lZ,iF,Sm.val,ih1,ih2,ij,Bo.w])
end
theorem pE{os:Pk}(e:h[n]?=Wv (.lst (os.map d8)))(hl:os.length < 64)(nd:(os.map (·.1)).Nodup):eZ [.ref n] h= .ok (.ref h.length) (h++[.lst ((pY os).map d8)]):=by
 have hi:itemsOf h (.ref n)=Wv (os.map d8):=by simp[itemsOf,cH,e]
 show mF [.ref n] h=_;unfold mF;simp only[hi];cases os with
 | nil=>simp[fu,d9,pY]
 | cons q r =>
  have e1:fu ((q::r).map d8)=Wx:=rfl
  rw[e1]
  simp only[vR]
  rw[if_pos ⟨hl,nd⟩]
def lay(ps:Pk)(x:Str)(v:Int):Pk:=pY (ps.filter (λq=> !decide (q.1=x))++if v=0 then[] else[(x,v)])
theorem i6(ps:Pk):(pY ps).Perm ps:=Z6 ps _
theorem Cz{ps:Pk}(nd:(ps.map (·.1)).Nodup):((pY ps).map (·.1)).Pairwise jU:=by
 have h1:=Zn (λa b c=>iw a.1 b.1 c.1) (λa b=>by simpa using j5 a.1 b.1) ps;have h2:=((i6 ps).map _).nodup_iff.mpr nd;rw[aaA];rw[List.nodup_iff_pairwise_ne,aaA] at h2;refine h1.imp₂ (λa b z1 z2=>?_) h2;rcases nj z2 with z | z
 . exact z
 . unfold rh at z1;simp[z] at z1
theorem xT(nd:(ps.map (·.1)).Nodup): ∀ q∈ps,fP ps q.1=q.2:=by
 induction ps with
 | nil=>intro q m;cases m
 | cons p r ih =>
  intro q m
  rw[WH] at nd;rw[Y9] at nd
  unfold fP
  rcases WM.mp m with e | m
  . rw[if_pos (by rw[e]),e]
  . rw[if_neg (λz=>nd.1 (by rw[z];exact Xk.mpr ⟨q,m,rfl⟩))];exact ih nd.2 q m
theorem vi(h:x ∉ ps.map (·.1)):fP ps x=0:=by
 induction ps with
 | nil=>rfl
 | cons p r ih =>
  rw[WH,WM,not_or] at h
  unfold fP
  rw[if_neg (λz=>h.1 z.symm)]
  exact ih h.2
theorem Hq(p:ps.Perm qs)(nd:(qs.map (·.1)).Nodup) x:fP ps x=fP qs x:=by
 by_cases hx:x∈qs.map (·.1)
 . obtain⟨q,m,rfl⟩:=Xk.mp hx;rw[xT nd q m,xT ((p.map (·.1)).nodup_iff.mpr nd) q (p.mem_iff.mpr m)]
 . rw[vi hx,vi λz=>hx ((p.map (·.1)).mem_iff.mp z)]
theorem yS{ps:Pk}(nd:(ps.map (·.1)).Nodup) x (v:Int):((ps.filter (λq=> !decide (q.1=x))++if v=0 then[] else[(x,v)]).map (·.1)).Nodup:=by
 rw[Xl];refine ZM.mpr ⟨(List.Sublist.map _ aa8).nodup nd,?_,λa ha b hb e=>?_⟩
 . split<;>simp
 . split at hb
   . cases hb
   . obtain⟨q,m,rfl⟩:=Xk.mp ha;have hb':b=x:=by simpa using hb
     have:=(YG.mp m).2;simp only[YC,decide_eq_false_iff_not] at this;exact this (e.trans hb')
theorem uK(nd:(ps.map (·.1)).Nodup) x v y:fP (lay ps x v) y=if y=x then v else fP ps y:=by
 rw[lay,Hq (i6 _) (yS nd x v)];have app: ∀ l m y,fP (l++m) y=if y∈l.map (·.1) then fP l y else fP m y:=by
  intro l m y
  induction l with
  | nil=>rfl
  | cons q r ih =>
   rw[Yf,fP,fP,ih]
   by_cases e:q.1=y
   . rw[if_pos e,if_pos e,if_pos (by rw[WH,e];exact WW)]
   . have e': ¬ y=q.1:=λz=>e z.symm;rw[if_neg e,if_neg e];simp only[WH,WM,e',false_or]
 have fil: ∀ l ,¬ y=x->fP (l.filter λq=> !decide (q.1=x)) y=fP l y:=by
  intro l ne
  induction l with
  | nil=>rfl
  | cons q r ih =>
   by_cases e:q.1=x
   . rw[XC (by simp[e]),fP,if_neg (λz=>ne (z.symm.trans e)),ih]
   . rw[Xm (by simp[e]),fP,fP,ih]
 rw[app];by_cases e:y=x
 . rw[if_neg]
   . split
     . rename_i z;rw[z];rfl
     . rw[fP,if_pos e.symm]
   . intro z;obtain⟨q,m,rfl⟩:=Xk.mp z;have:=(YG.mp m).2;simp[e] at this
 . rw[fil ps e];split
   . rfl
   . rename_i z;have h0:fP ps y=0:=by
      rw[<- fil ps e];exact vi z
     rw[h0];split
     . rfl
     . rw[fP,if_neg (λz=>e z.symm)];rfl
structure vm(L:List Str)(ps:Pk):Prop where
 VZ:(ps.map (·.1)).Pairwise jU
 mem: ∀ q∈ps,q.1∈L/\1<=q.2/\q.2<=999
theorem vm.nd(h:vm L ps):(ps.map (·.1)).Nodup:=h.VZ.imp λ{a b} z e=>by subst e;exact kM _ z
theorem vm.len(h:vm L ps):ps.length<=L.length:=by
 have:=Zo h.nd (l₂ :=L) (λx hx=>by obtain⟨q,hq,rfl⟩:=Xk.mp hx;exact(h.mem q hq).1);simpa using this
theorem vm.nil:vm L []:=⟨.nil,λq m=>by cases m⟩
theorem yA(h:vm L ps)(hx:x∈L)(h0:0<=v)(h9:v<=999):vm L (lay ps x v):=by
 refine⟨Cz (yS h.nd x v),λq m=>?_⟩;rcases XJ.mp ((i6 _).mem_iff.mp m) with m | m
 . exact h.mem q (YG.mp m).1
 . split at m
   . cases m
   . rw[Xq.mp m];exact⟨hx,show 1<=v by omega,h9⟩
theorem mT x: ∀ ps:Pk,(ps.filterMap λq=>if q.1=x then Wx else Wv (d8 q))=(ps.filter (λq=> !decide (q.1=x))).map d8
 | []=>rfl
 | q::r=>by
  by_cases z:q.1=x
  . rw[Zg (by simp[z]),XC (by simp[z]),mT x r]
  . rw[Zh (by rw[if_neg z]),Xm (by simp[z]),WH,mT x r]
section
variable{pg:Tb}(T:bN pg)
include T
theorem Ap k h (nd:(ps.map (·.1)).Nodup) x v (hl:(lay ps x v).length<=20) (hp:ps.length<=1000):run pg (k+1) "laid" [xx ps,.str x,.int v] h= .ok (xx (lay ps x v)) h:=by
 rw[run_eq T.Oe rfl];have e1:gL ⟨Wx,ps.map d8⟩ (aO 1 (gN 4) (aF (aj ke (eX 4 0) (aa 1))) (aa 4) (run pg k) [Wv (.tup (ps.map d8)),Wv (.str x),Wv (.int v),Wx]) (ps.map d8) [] h= .ok ([]++ps.filterMap λq=>if q.1=x then Wx else Wv (d8 q)) h:=by
  refine dW rfl ps [] (λq m=>?_) (by simp;omega);simp? [d8];by_cases z:q.1=x<;>simp[z]
 rw[mT] at e1;have hl':(ps.filter (λq=> !decide (q.1=x))++if v=0 then[] else[(x,v)]).length<=20:=by rw[<- (i6 _).length_eq];exact hl
 have nd':=yS nd x v;have hz:((ps.filter (λq=> !decide (q.1=x))).map d8).length < 16777216:=by
  rw[Wy];have:=Y5 (λq:Str × Int=> !decide (q.1=x)) ps;omega
 by_cases hv:v=0
 . subst hv;rw[if_pos rfl,Xr] at hl' nd';have s1:=pE (h:=h++[.lst ((ps.filter (λq=> !decide (q.1=x))).map d8)]) (n:=h.length) aR (abl hl' (by decide)) nd';simp? [qM,yg,xx,e1,s1];rw[bU (v:= .tup _) (jq _),lay,if_pos rfl,Xr]
 . rw[if_neg hv] at hl' nd';have s1:=pE (h:=h++[.lst ((ps.filter (λq=> !decide (q.1=x))++[(x,v)]).map d8)]) (n:=h.length) aR (abl hl' (by decide)) nd';rw[Xl] at s1;simp? [qM,yg,xx,e1,hv];rw[show aeL d8 [(x,v)]=[PV.tup [PV.str x,PV.int v]] from rfl] at s1;simp? [s1,Xc];rw[bU (v:= .tup _) (jq _),lay,if_neg hv]
end
inductive Rw where
 | let_ (x:Str) (e:Sm) | leap (k:Int) (e:Sm) | take (l:Str) | free (l:Str) | get (x b:Str) | put (b:Str) (e:Sm)
 | send (l:Str) (e:Sm) | fetch (x l:Str) | say (d:Str) (e:Sm) | clock (x:Str) | lot (x:Str) (n:Int) | hear (x d:Str)
noncomputable def Rw.w:Rw->Str
 | .let_ _ _=> "let" | .leap _ _=> "leap" | .take _=> "take" | .free _=> "free" | .get _ _=> "get" | .put _ _=> "put"
 | .send _ _=> "send" | .fetch _ _=> "fetch" | .say _ _=> "say" | .clock _=> "clock" | .lot _ _=> "lot" | .hear _ _=> "hear"
def Rw.ps:Rw->List PV
 | .let_ x e=>[.str x,iF e] | .leap k e=>[.int k,iF e] | .take l=>[.str l] | .free l=>[.str l] | .get x b=>[.str x,.str b] | .put b e=>[.str b,iF e]
 | .send l e=>[.str l,iF e] | .fetch x l=>[.str x,.str l] | .say d e=>[.str d,iF e] | .clock x=>[.str x] | .lot x n=>[.str x,.int n] | .hear x d=>[.str x,.str d]
def bF(r:Rw):PV:= .tup (.str r.w::r.ps)
def bJ(rs:List Rw):PV:= .tup (rs.map bF)
structure eL where
 row:Nat
 ps:Pk
 held:List Str
noncomputable def kg(hs:List Str):PV:= .tup (hs.map PV.str)
def aE(s:eL):PV:= .tup [.int s.row,xx s.ps,kg s.held]
noncomputable def own(held:List Str):Rw->Bool
 | .take l=>decide (l∈held)
 | .free l=> !decide (l∈held)
 | .let_ _ _=>true
 | .leap _ _=>true
 | _=>false
def jo(e:Sm):=e.ok/\e.dp<=7
def fk(L:List Str)(n:Nat):Rw->Prop
 | .let_ x e=>x∈L/\jo e
 | .leap k e=>0<=k/\k<=n/\jo e
 | .put _ e=>jo e
 | .send _ e=>jo e
 | .say _ e=>jo e
 | .get x _=>x∈L
 | .fetch x _=>x∈L
 | .clock x=>x∈L
 | .lot x m=>x∈L/\2<=m/\m<=1000
 | .hear x _=>x∈L
 | _=>True
def behind(s:eL):Rw->eL
 | .let_ x e=>⟨s.row+1,lay s.ps x (e.val (fP s.ps)),s.held⟩
 | .leap k e=>if e.val (fP s.ps)=0 then⟨s.row+1,s.ps,s.held⟩ else⟨k.toNat,s.ps,s.held⟩
 | _=>⟨s.row+1,s.ps,s.held⟩
structure dw(L:List Str)(rs:List Rw)(s:eL):Prop where
 pk:vm L s.ps
 le:s.row<=rs.length
theorem tE: ∀ hs:List Str,PV.bo (hs.map PV.str)=true
 | []=>rfl
 | x::r=>by rw[WH,PV.bo,tE r];rfl
theorem kS s:(aE s).flat=true:=by
 simp[aE,PV.flat,PV.bo,xx,jq,kg,tE]
theorem EA r:(bF r).flat=true:=by
 cases r<;>simp[bF,Rw.ps,PV.flat,PV.bo,fg]
theorem nJ: ∀ rs:List Rw,PV.bo (rs.map bF)=true
 | []=>rfl
 | x::r=>by rw[WH,PV.bo,nJ r,EA];rfl
def bC(rs:List Rw)(s:eL):Bool:=match rs[s.row]? with
 | none=>true
 | some r=> !own s.held r
def bu rs 
 | 0,s=>if bC rs s then s else⟨rs.length,s.ps,s.held⟩
 | n+1,s=>if bC rs s then s else match rs[s.row]? with
  | none=>s
  | some r=>bu rs n (behind s r)
theorem jQ(h:dw L rs s)(hr:fk L rs.length r)(e:rs[s.row]?=Wv r):dw L rs (behind s r):=by
 have hlt:=(WA.mp e).1;cases r with
 | let_ x e0 =>
  have hv:=Sm.ny (xi λq m=>(h.pk.mem q m).2) e0 hr.2.1
  exact⟨yA h.pk hr.1 hv.1 hv.2,hlt⟩
 | leap j e0 =>
  show dw L rs (if e0.val (fP s.ps)=0 then⟨s.row+1,s.ps,s.held⟩ else⟨j.toNat,s.ps,s.held⟩)
  split
  . exact ⟨h.pk,hlt⟩
  . exact ⟨h.pk,by have:=hr.2.1;show ace _<=rs.length;omega⟩
 | _=>exact ⟨h.pk,hlt⟩
theorem qP(hr : ∀ r ∈ rs, fk L rs.length r) : ∀ n s, dw L rs s -> dw L rs (bu rs n s)
  | 0, s, h => by unfold bu; split; · exact h
                  . exact ⟨h.pk, Nat.le_refl _⟩
  | n + 1, s, h => by
    unfold bu; split
    . exact h
    . split
      . exact h
      . rename_i r e; exact qP hr n _ (jQ h (hr r (WL e)) e)
theorem iu{rs:List Rw}{s:eL}(e:rs[s.row]?=Wv r):dZ (rs.map bF) (s.row)=Wv (bF r):=P3.eW rfl (by rw[WT,e];rfl)
section
variable{pg:Tb}(T:bN pg)
include T
theorem LA k h r held:run pg (k+1) "is_own_row" [bF r,kg held] h= .ok (.bl (own held r)) h:=by
 rw[run_eq T.uQ rfl];cases r<;>simp? [fH,my,bF,Rw.w,Rw.ps,kg,own]
theorem BV k h (hL:L.length<=20) (hs:dw L rs s) (hr:fk L rs.length r) (hrow:rs[s.row]?=Wv r):run pg (k+9) "behind_own_row" [bF r,aE s] h= .ok (aE (behind s r)) h:=by
 have nd:=hs.pk.nd;have hm:=λq m=>(hs.pk.mem q m).2;have hl:=hs.pk.len;have w: ∀ e:Sm,jo e->run pg (k+8) "worth" [iF e,xx s.ps] h= .ok (.int (e.val (fP s.ps))) h:=λe he=>jJ T h nd hm (by omega) e (k+7) he.1 (by have:=he.2;omega);rw[run_eq T.ni rfl];cases r with
 | let_ x e =>
  have hb:=(jQ hs hr hrow).pk.len
  have l1:=Ap T (k+7) h nd x (e.val (fP s.ps)) (Xb hb hL) (by omega)
  simp? [bP,cM,bF,Rw.w,Rw.ps,aE,behind,w e hr.2,l1]
  rfl
 | leap j e =>
  simp? [bP,cM,bF,Rw.w,Rw.ps,aE,behind,w e hr.2.2]
  by_cases z:e.val (fP s.ps)=0
  . simp only[z,if_true];rfl
  . have:((j.toNat))=j:=by have:=hr.1;omega
    simp only[z,if_false,this]
 | _ =>
  simp? [bP,cM,bF,Rw.w,Rw.ps,aE,behind]
  rfl
theorem lY k h (hs:s.row<=rs.length):run pg (k+2) "is_rested" [bJ rs,aE s] h= .ok (.bl (bC rs s)) h:=by
 rw[run_eq T.xB rfl];cases e:rs[s.row]? with
 | none =>
  have:s.row=rs.length:=by have:=X3.mp e;omega
  have r1:bC rs s=true:=by unfold bC;rw[e]
  simp? [eY,jD,bJ,aE,r1,this,Wy]
 | some r =>
  have hlt:=(WA.mp e).1
  have ne: ¬ (s.row)=(rs.length:Int):=by omega
  have ix:=kD (h:=h) (iu e)
  have o1:=LA T k h r s.held
  simp? [eY,jD,bJ,aE,bC,e,ne,ix,o1,Wy]
def nR(p:PV) j (rs:List Rw):= ∃ a b c d hs nm,p= .tup [a,b,c,d,.tup hs]/\dZ hs j=Wv (.tup [nm,bJ rs])
theorem kR k h (hp:nR p j rs):run pg (k+1) "rows_of" [p,.int j] h= .ok (bJ rs) h:=by
 obtain⟨a,b,c,d,hs,nm,rfl,e⟩:=hp;rw[run_eq T.Cn rfl];simp? [j6,tP,kD e]
theorem iB k h (hL:L.length<=20) (hp:nR p j rs) (hr: ∀ r∈rs,fk L rs.length r) (hs:dw L rs s):run pg (k+10) "rested" [p,.int j,aE s] h= .ok (aE (bu rs 200 s)) h:=by
 have rest: ∀ xs xs0 s0 s tv,dw L rs s ->
   ((bK ⟨Wx,xs0⟩ (br (gN 5) (ae (bW (aF (ag "is_rested" (a2 (aa 3) (aa 4)))) (ay (aa 4)) cE) (ai (ag "behind_own_row" (ab (aj aB (aa 3) (eX 4 0)) (a1 (aa 4)))) (gN 4))) (run pg (k+9))) xs
    [Wv p,Wv (.int j),Wv (aE s0),Wv (bJ rs),Wv (aE s),tv] h).bind
    (BN (ae (bW (aF (ag "is_rested" (a2 (aa 3) (aa 4)))) (ay (aa 4)) cE) (ay (aq (ab (eB bV (a1 (aa 3))) (a2 (eX 4 1) (eX 4 2)))))) (run pg (k+9))))= .ok (.rt (aE (bu rs xs.length s))) h:=by
  intro xs xs0 s0
  induction xs with
  | nil =>
   intro s tv hs
   have q:=lY T (k+7) h hs.le
   simp? [gJ,bu,q]
   cases bC rs s<;>simp? [aE,bJ,Wy]
  | cons x xs ih =>
   intro s tv hs
   have q:=lY T (k+7) h hs.le
   rw[eK]
   simp? [bu,q]
   cases e:rs[s.row]? with
   | none =>
    have r1:bC rs s=true:=by unfold bC;rw[e]
    simp? [r1,AG]
   | some r =>
    cases r1:bC rs s with
    | true=>simp? [AG]
    | false =>
     have hm:=hr r (WL e)
     have ix:=kD (h:=h) (iu e)
     have be:=BV T k h hL hs hm e
     have i0:aB (aE s) (.int 0) h= .ok (.int s.row) h:=rfl
     have ix':aB (bJ rs) (.int s.row) h= .ok (bF r) h:=ix
     simp? [r1,i0,ix',be,cb,ih _ _ (jQ hs hm e)]
 rw[run_eq T.En rfl];have ro:=kR T (k+8) h hp;simp? [mE,vW,ro];have hh:=rest (aH 0 200) (aH 0 200) s s Wx hs;have len:(aH 0 200).length=200:=rfl;rw[len] at hh;exact(congrArg (fin h) hh).trans (by rw[jG,oA])
end
section
variable{pg:Tb}(T:bN pg)
include T
theorem sA k h (hL:L.length<=20) (hp:nR p j rs) (hr: ∀ r∈rs,fk L rs.length r):run pg (k+11) "first_seat" [p,.int j] h= .ok (aE (bu rs 200 ⟨0,[],[]⟩)) h:=by
 have:=iB T k h hL hp hr (s:=⟨0,[],[]⟩) ⟨.nil,Xv _⟩;rw[run_eq T.u6 rfl];have e:PV.tup [.int 0,.tup [],.tup []]=aE ⟨0,[],[]⟩:=rfl;simp? [fR,lI,e,this]
end
noncomputable def Rw.gc:Rw->Option Str
 | .get x _=>Wv x | .fetch x _=>Wv x | .clock x=>Wv x | .lot x _=>Wv x | .hear x _=>Wv x
 | _=>Wx
noncomputable def Rw.sum:Rw->Option Sm
 | .let_ _ e=>Wv e | .leap _ e=>Wv e | .put _ e=>Wv e | .send _ e=>Wv e | .say _ e=>Wv e
 | _=>Wx
theorem fk.sum(h:fk L n r)(q:r.sum=Wv e):jo e:=by
 cases r<;>cases q
 . exact h.2
 . exact h.2.2
 . exact h
 . exact h
 . exact h
noncomputable def PV.num:PV->Int
 | .int i=>i
 | _=>0
def after(s:eL)(v:PV):Rw->eL
 | .get x _=>⟨s.row+1,lay s.ps x (PV.num v),s.held⟩
 | .fetch x _=>⟨s.row+1,lay s.ps x (PV.num v),s.held⟩
 | .clock x=>⟨s.row+1,lay s.ps x (PV.num v),s.held⟩
 | .lot x _=>⟨s.row+1,lay s.ps x (PV.num v),s.held⟩
 | .hear x _=>⟨s.row+1,lay s.ps x (PV.num v),s.held⟩
 | .take l=>⟨s.row+1,s.ps,d9 (s.held++[l])⟩
 | .free l=>⟨s.row+1,s.ps,s.held.filter λz=> !decide (z=l)⟩
 | _=>⟨s.row+1,s.ps,s.held⟩
def bZ(s:eL):Rw->PV
 | .let_ _ e=> .tup [.str "let",.str "",.int (e.val (fP s.ps))]
 | .leap k e=> .tup [.str "leap",.int k,.int (e.val (fP s.ps))]
 | .take l=> .tup [.str "take",.str l,.non]
 | .free l=> .tup [.str "free",.str l,.non]
 | .get _ b=> .tup [.str "get",.str b,.non]
 | .put b e=> .tup [.str "put",.str b,.int (e.val (fP s.ps))]
 | .send l e=> .tup [.str "send",.str l,.int (e.val (fP s.ps))]
 | .fetch _ l=> .tup [.str "fetch",.str l,.non]
 | .say d e=> .tup [.str "say",.str d,.int (e.val (fP s.ps))]
 | .clock _=> .tup [.str "clock",.str "",.non]
 | .lot _ n=> .tup [.str "lot",.str "",.int n]
 | .hear _ d=> .tup [.str "hear",.str d,.non]
def qW(rs:List Rw)(s:eL):PV:=match rs[s.row]? with
 | none=> .non
 | some r=>bZ s r
theorem dC: ∀ ss ,fu (ss.map PV.str)=Wv ss
 | []=>rfl
 | x::r=>by rw[WH,fu,dC r];rfl
theorem zg(hl:ss.length < 64):eZ [.tup (ss.map PV.str)] h= .ok (.ref h.length) (h++[.lst ((d9 ss).map PV.str)]):=by
 simp only[eZ,dC,if_pos hl]
theorem pj:gM (x::xs) (Wv 1) Wx=xs:=by rw[P3.ig (by decide)];rfl
def Rw.parts:Rw->List PV
 | .let_ _ _=>[.str "pocket",.str "sum"] | .leap _ _=>[.str "target",.str "sum"] | .get _ _=>[.str "pocket",.str "box"] | .put _ _=>[.str "box",.str "sum"]
 | .take _=>[.str "lock"] | .free _=>[.str "lock"] | .send _ _=>[.str "lane",.str "sum"] | .fetch _ _=>[.str "pocket",.str "lane"] | .say _ _=>[.str "door",.str "sum"]
 | .clock _=>[.str "pocket"] | .lot _ _=>[.str "pocket",.str "chances"] | .hear _ _=>[.str "pocket",.str "door"]
theorem Gz(r:Rw):cx fm (.inr r.w)=Wv (.ktup r.parts):=by cases r<;>(simp only[Rw.w,Rw.parts];decide +kernel)
theorem jr l: ∀ ss:List Str,(ss.filterMap λz=>if z=l then Wx else Wv (PV.str z))=(ss.filter (λz=> !decide (z=l))).map PV.str
 | []=>rfl
 | q::r=>by
  by_cases z:q=l
  . rw[Zg (by simp[z]),XC (by simp[z]),jr l r]
  . rw[Zh (by rw[if_neg z]),Xm (by simp[z]),WH,jr l r]
def toG:=(gT 2 (aA (gN 7) (aA (gN 8) cw)))
def yO:=(bW (mQ (aa 7) (eS "sum")) (ai (ag "worth" (a2 (aa 8) (eX 2 1))) (gN 6)) (bW (mQ (aa 7) (eS "chances")) (ai (aa 8) (gN 6)) (bW (aF (aj ke (aa 7) (eS "pocket"))) (ai (aa 8) (gN 5)) cE)))
section
variable{c:CF}{h:PH}{a0 a1 b0 b1 a3 a4 a5 a6 a7 a8 x:Option PV}{y s1 w:PV}
theorem qG(q: ∀ g,aB s1 (.int 1) g= .ok b g)(z:c "worth" [y,b] h= .ok w h):br toG yO c (.tup [.str "sum",y]) [a0,a1,Wv s1,a3,a4,a5,a6,a7,a8] h= .ok (.nx [a0,a1,Wv s1,a3,a4,a5,Wv w,Wv (.str "sum"),Wv y]) h:=by
 simp? [toG,yO,q,z]
theorem Rn:br toG yO c (.tup [.str "chances",y]) [a0,a1,b0,a3,a4,a5,a6,a7,a8] h= .ok (.nx [a0,a1,b0,a3,a4,a5,Wv y,Wv (.str "chances"),Wv y]) h:=by
 simp? [toG,yO]
theorem Aj:br toG yO c (.tup [.str "pocket",y]) [a0,a1,b0,a3,a4,a5,a6,a7,a8] h= .ok (.nx [a0,a1,b0,a3,a4,a5,a6,Wv (.str "pocket"),Wv y]) h:=by
 simp? [toG,yO]
theorem pB{p:Str}(q: ¬ p= "sum" /\ ¬ p= "chances" /\ ¬ p= "pocket"):br toG yO c (.tup [.str p,y]) [a0,a1,b0,a3,a4,a5,a6,a7,a8] h= .ok (.nx [a0,a1,b0,a3,a4,Wv y,a6,Wv (.str p),Wv y]) h:=by
 simp? [toG,yO,q.1,q.2.1,q.2.2]
end
theorem HG{c:CF}{h:PH}(s:eL)(r:Rw)(w: ∀ e:Sm,r.sum=Wv e->c "worth" [iF e,xx s.ps] h= .ok (.int (e.val (fP s.ps))) h)(xs:List PV)(a0 a1 a3 a4:Option PV) :
  ∃(t v:PV)(u7 u8:Option PV),bZ s r= .tup [.str r.w,t,v]/\bK ⟨Wx,xs⟩ (br toG yO c) ((r.parts.zip r.ps).map λp=> .tup [p.1,p.2]) [a0,a1,Wv (aE s),a3,a4,Wv (.str ""),Wv .non,Wx,Wx] h= .ok (.nx [a0,a1,Wv (aE s),a3,a4,Wv t,Wv v,u7,u8]) h:=by
 have i1: ∀ g,aB (aE s) (.int 1) g= .ok (xx s.ps) g:=λg=>rfl;have lp1: ∀{x:PV}{e e1:aQ},br toG yO c x e h= .ok (.nx e1) h->bK ⟨Wx,xs⟩ (br toG yO c) [x] e h= .ok (.nx e1) h:=λq=>by rw[eK,q,dc,cb,gJ]
 have lp2: ∀{x y:PV}{e e1 e2:aQ},br toG yO c x e h= .ok (.nx e1) h->br toG yO c y e1 h= .ok (.nx e2) h->bK ⟨Wx,xs⟩ (br toG yO c) [x,y] e h= .ok (.nx e2) h:=λq q2=>by rw[eK,q,dc,cb,eK,q2,dc,cb,gJ]
 cases r with
 | let_ x e=>exact⟨_,_,_,_,rfl,lp2 Aj (qG i1 (w e rfl))⟩
 | leap x e=>exact⟨_,_,_,_,rfl,lp2 (pB (by decide +kernel)) (qG i1 (w e rfl))⟩
 | put x e=>exact⟨_,_,_,_,rfl,lp2 (pB (by decide +kernel)) (qG i1 (w e rfl))⟩
 | send x e=>exact⟨_,_,_,_,rfl,lp2 (pB (by decide +kernel)) (qG i1 (w e rfl))⟩
 | say x e=>exact⟨_,_,_,_,rfl,lp2 (pB (by decide +kernel)) (qG i1 (w e rfl))⟩
 | take x=>exact⟨_,_,_,_,rfl,lp1 (pB (by decide +kernel))⟩
 | free x=>exact⟨_,_,_,_,rfl,lp1 (pB (by decide +kernel))⟩
 | clock x=>exact⟨_,_,_,_,rfl,lp1 Aj⟩
 | lot x n=>exact⟨_,_,_,_,rfl,lp2 Aj Rn⟩
 | _=>exact⟨_,_,_,_,rfl,lp2 Aj (pB (by decide +kernel))⟩
theorem rw_0 r g:aB (bF r) (.int 0) g= .ok (.str r.w) g:=qq
theorem rw_pk(h:r.gc=Wv x) g:aB (bF r) (.int 1) g= .ok (.str x) g:=by cases r<;>cases h<;>exact jf
theorem fk.pk(h:fk L n r)(q:r.gc=Wv x):x∈L:=by
 cases r<;>cases q<;>first | exact h | exact h.1
theorem jK(h:r.gc=Wv x):after s v r=⟨s.row+1,lay s.ps x (PV.num v),s.held⟩:=by cases r<;>cases h<;>rfl
theorem Rl{r:Rw}(h:r.gc=Wv x):r.w∈(["get", "fetch", "clock", "lot", "hear"]:List Str)∧ ¬ r.w= "take" /\ ¬ r.w= "free" :=by cases r<;>cases h<;>(simp only [Rw.w];decide +kernel)
theorem rw_cls(r:Rw):(∃ x,r.gc=Wv x)∨(∃ l,r= .take l)∨(∃ l,r= .free l)∨((¬ r.w∈(["get", "fetch", "clock", "lot", "hear"]:List Str)∧ ¬ r.w= "take" /\ ¬ r.w= "free")∧ ∀ s v,after s v r=⟨s.row+1,s.ps,s.held⟩):=by
 cases r with
 | take l=>exact .inr (.inl ⟨l,rfl⟩)
 | free l=>exact .inr (.inr (.inl ⟨l,rfl⟩))
 | get x _=>exact .inl ⟨x,rfl⟩
 | fetch x _=>exact .inl ⟨x,rfl⟩
 | clock x=>exact .inl ⟨x,rfl⟩
 | lot x _=>exact .inl ⟨x,rfl⟩
 | hear x _=>exact .inl ⟨x,rfl⟩
 | _=>exact .inr (.inr (.inr ⟨by simp only[Rw.w];decide +kernel,λ_ _=>rfl⟩))
section
variable{pg:Tb}(T:bN pg)
include T
theorem oz k h (hL:L.length<=20) (hp:nR p j rs) (hr: ∀ r∈rs,fk L rs.length r) (hs:dw L rs s):run pg (k+10) "touch_of" [p,.int j,aE s] h= .ok (qW rs s) h:=by
 have nd:=hs.pk.nd;have hm:=λq m=>(hs.pk.mem q m).2;have hl:=hs.pk.len;have w: ∀ e:Sm,jo e->run pg (k+9) "worth" [iF e,xx s.ps] h= .ok (.int (e.val (fP s.ps))) h:=λe he=>jJ T h nd hm (by omega) e (k+8) he.1 (by have:=he.2;omega);have ro:=kR T (k+8) h hp;have ro':run pg (k+9) "rows_of" [p,.int j] h= .ok (.tup (rs.map bF)) h:=ro;rw[run_eq T.ye rfl];cases e:rs[s.row]? with
 | none =>
  have:s.row=rs.length:=by have:=X3.mp e;have:=hs.le;omega
  have t1:qW rs s= .non:=by unfold qW;rw[e]
  simp? [gb,kQ,aE,t1,this,ro',Wy]
 | some r =>
  have hlt:=(WA.mp e).1
  have ne: ¬ (s.row)=(rs.length:Int):=by omega
  have ix:=kD (h:=h) (iu e)
  have hrr:=hr r (WL e)
  have t1:qW rs s=bZ s r:=by unfold qW;rw[e]
  rw[t1]
  have w':=λe q=>w e (hrr.sum q)
  obtain⟨t,v,u7,u8,et,lp⟩:=HG (h:=h) s r w' ((r.parts.zip r.ps).map λp=> .tup [p.1,p.2]) (Wv p) (Wv (.int j)) (Wv (.tup (rs.map bF))) (Wv (bF r))
  have r_0:=λg=>rw_0 r g
  have i0: ∀ g,aB (aE s) (.int 0) g= .ok (.int s.row) g:=λg=>rfl
  have sl: ∀ g,Am (bF r) (Wv 1) Wx g= .ok (.tup r.ps) g:=λg=>by unfold bF;rw[FT,pj]
  have at_r:=ix
  rw[et]
  unfold toG yO at lp
  simp? [gb,kQ,i0,ro',ne,at_r,r_0,sl,Gz,lp,Wy]
theorem pR k h (hL:L.length<=20) (hp:nR p j rs) (hr: ∀ r∈rs,fk L rs.length r) (hs:dw L rs s) (hh:s.held.length<=60) (e:rs[s.row]?=Wv r) (hv: ∀ x,r.gc=Wv x-> ∃ i ,v= .int i/\0<=i/\i<=999):run pg (k+11) "seat_behind" [p,.int j,aE s,v] h= .ok (aE (bu rs 200 (after s v r))) h:=by
 have ro:=kR T (k+9) h hp;have ro':run pg (k+10) "rows_of" [p,.int j] h= .ok (.tup (rs.map bF)) h:=ro;have hlt:=(WA.mp e).1;have ix:=kD (h:=h) (iu e);have hrr:=hr r (WL e);have ink: ∀ a:Str,jw (.str a) (.ktup [(.str "get"),(.str "fetch"),(.str "clock"),(.str "lot"),(.str "hear")]) h= .ok (.bl (decide (a∈(["get", "fetch", "clock", "lot", "hear"]:List Str)))) h:=λa=>in_K (ss:=["get", "fetch", "clock", "lot", "hear"]);rw [run_eq T.rq rfl];have r0:run pg (k+10) "rested" [p,.int j,.tup [.int ((s.row:Int)+1),xx s.ps,kg s.held]] h= .ok (aE (bu rs 200 ⟨s.row+1,s.ps,s.held⟩)) h:=iB T k h hL hp hr (s:=⟨s.row+1,s.ps,s.held⟩) ⟨hs.pk,hlt⟩;have r_0:=λg=>rw_0 r g;have at_r:=ix;rcases rw_cls r with⟨x,hx⟩ | ⟨l,rfl⟩ | ⟨l,rfl⟩ | ⟨⟨n5,nt,nf⟩,af⟩
 . obtain⟨i,rfl,h0,h9⟩:=hv x hx;have li:=yA hs.pk (hrr.pk hx) h0 h9;have l1:=Ap T (k+9) h hs.pk.nd x i (Xb li.len hL) (by have:=hs.pk.len;omega);have r1:run pg (k+10) "rested" [p,.int j,.tup [.int ((s.row:Int)+1),xx (lay s.ps x i),kg s.held]] h=_:=iB T k h hL hp hr (s:=⟨s.row+1,lay s.ps x i,s.held⟩) ⟨li,hlt⟩;have n5:=(Rl hx).1;have x1:=λg=>rw_pk hx g;rw[jK hx];simp? [ck,c8,aE,ro',at_r,r_0,x1,ink,n5,l1,r1,PV.num]
 . have r1:=iB T k (h++[.lst ((d9 (s.held++[l])).map PV.str)]) hL hp hr (s:=⟨s.row+1,s.ps,d9 (s.held++[l])⟩) ⟨hs.pk,hlt⟩;have r1':run pg (k+10) "rested" [p,.int j,.tup [.int ((s.row:Int)+1),xx s.ps,.tup ((d9 (s.held++[l])).map PV.str)]] (h++[.lst ((d9 (s.held++[l])).map PV.str)])=_:=r1;have s1:=zg (h:=h) (ss:=s.held++[l]) (by simp;omega);rw[Xl] at s1;have hl2:(s.held.map PV.str).length+1<=16777216:=by simp;omega
   have s1':eZ [.tup (s.held.map PV.str++[.str l])] h= .ok (.ref h.length) (h++[.lst ((d9 (s.held++[l])).map PV.str)]):=s1;simp? [ck,c8,aE,kg,ro',ix,bF,Rw.w,Rw.ps,ink,WM,W4,or_false,or_true,true_or,false_or,after,Wy,s1',r1'];exact bU (kS _)
 . have e1: ∀ e ,e=[Wv p,Wv (.int j),Wv (aE s),Wv v,Wv (bF (.free l)),Wv (xx s.ps),Wv (kg s.held)]->gL ⟨Wx,s.held.map PV.str⟩ (aO 1 (gN 7) (aF (aj ke (aa 7) (eX 4 1))) (aa 7) (run pg (k+10)) e) (s.held.map PV.str) [] h= .ok ((s.held.filter (λz=> !decide (z=l))).map PV.str) h:=by
    rintro _ rfl;rw[<- jr];refine(dW rfl s.held [] (λq m=>?_) (by simp;omega)).trans (by rw[XF]);simp? [bF,Rw.w,Rw.ps];by_cases z:q=l<;>simp[z]
   have e1':=e1 _ rfl;have r1:=iB T k (h++[.lst ((s.held.filter (λz=> !decide (z=l))).map PV.str)]) hL hp hr (s:=⟨s.row+1,s.ps,s.held.filter (λz=> !decide (z=l))⟩) ⟨hs.pk,hlt⟩;have r1':run pg (k+10) "rested" [p,.int j,.tup [.int ((s.row:Int)+1),xx s.ps,.tup ((s.held.filter (λz=> !decide (z=l))).map PV.str)]] (h++[.lst ((s.held.filter (λz=> !decide (z=l))).map PV.str)])=_:=r1;simp only[bF,aE,kg,Rw.w,Rw.ps] at e1';simp? [ck,c8,aE,kg,ro',ix,bF,Rw.w,Rw.ps,ink,WM,W4,or_false,or_true,true_or,false_or,after,Wy,e1',r1'];exact bU (kS _)
 . rw[af];simp? [ck,c8,aE,ro',at_r,r_0,ink,n5,nt,nf,r0]
end
structure sE(L:List Str)(D:Pk):Prop where
 nd:(D.map (·.1)).Nodup
 mem: ∀ q∈D,q.1∈L/\0<=q.2/\q.2<=999
noncomputable def putD(D:Pk)(x:Str)(v:Int):Pk:=if x∈D.map (·.1) then D.map (λq=>if q.1=x then(q.1,v) else q) else D++[(x,v)]
theorem zq(D:Pk) x v:(D.map (λq=>if q.1=x then(q.1,v) else q)).map (·.1)=D.map (·.1):=by
 rw[XB];refine ZZ λq _=>?_;show(if q.1=x then(q.1,v) else q).1=q.1;split<;>rfl
theorem jV D x v:iA (fh D) (.inr x) (.int v)=fh (putD D x v):=by
 unfold iA putD;have e:((fh D).any λkv=>decide (kv.1= .inr x))=decide (x∈D.map (·.1)):=by
  rw[aah];simp only[aea,decide_eq_true_eq,fh,Xk];constructor
  . rintro ⟨kv,⟨q,m,rfl⟩,e⟩;exact⟨q,m,aeb e⟩
  . rintro ⟨q,m,rfl⟩;exact⟨_,⟨q,m,rfl⟩,rfl⟩
 rw[e];by_cases h:x∈D.map (·.1)
 . rw[if_pos (by simpa only[decide_eq_true_eq] using h),if_pos h];unfold fh;rw[XB];rw[XB];refine ZZ λq _=>?_;show(if (YQ q.1)=YQ x then((YQ q.1),PV.int v) else(YQ q.1,PV.int q.2))=_;by_cases z:q.1=x
   . simp[z]
   . simp[z]
 . rw[if_neg (by simpa only[decide_eq_true_eq] using h),if_neg h];unfold fh;rw[Xl];rfl
theorem zu x v y: ∀ D ,x∈D.map (·.1)->fP (D.map (λq=>if q.1=x then(q.1,v) else q)) y=if y=x then v else fP D y
 | q::r,h=>by
  rw[WH,fP,fP];by_cases z:q.1=x
  . rw[if_pos z];by_cases w:y=x
    . subst w;rw[if_pos z,if_pos rfl]
    . rw[if_neg (λe=>w (e.symm.trans z)),if_neg w,if_neg (λe=>w (e.symm.trans z))];by_cases hr:x∈r.map (·.1)
      . rw[zu x v y r hr,if_neg w]
      . congr 1;refine(ZZ λp m=>?_).trans (List.map_id _);show(if p.1=x then(p.1,v) else p)=p;rw[if_neg (λe=>hr (Xk.mpr ⟨p,m,e⟩))]
  . rw[if_neg z];have hr:x∈r.map (·.1):=by
     rcases WM.mp h with e | m
     . exact absurd e.symm z
     . exact m
    rw[zu x v y r hr];by_cases w:q.1=y
    . rw[if_pos w,if_pos w,if_neg (λe=>z (w.trans e))]
    . rw[if_neg w,if_neg w]
theorem DK x v y: ∀ D ,x ∉ D.map (·.1)->fP (D++[(x,v)]) y=if y=x then v else fP D y
 | [],_=>by
  rw[XF,fP,fP];by_cases w:y=x
  . rw[if_pos w,if_pos w.symm]
  . rw[if_neg w,if_neg (λe=>w e.symm)];rfl
 | q::r,h=>by
  rw[WH,WM,not_or] at h;rw[Yf,fP,fP,DK x v y r h.2];by_cases w:q.1=y
  . rw[if_pos w,if_pos w,if_neg (λe=>h.1 (e.symm.trans w.symm))]
  . rw[if_neg w,if_neg w]
theorem oV D x v y:fP (putD D x v) y=if y=x then v else fP D y:=by
 unfold putD;split
 . rename_i h;exact zu x v y D h
 . rename_i h;exact DK x v y D h
theorem o6(h:sE L D)(hx:x∈L)(h0:0<=v)(h9:v<=999):sE L (putD D x v):=by
 unfold putD;split
 . refine⟨by rw[zq];exact h.nd,λq m=>?_⟩;obtain⟨p,mp,rfl⟩:=Xk.mp m;by_cases z:p.1=x
   . rw[if_pos z];exact⟨(h.mem p mp).1,h0,h9⟩
   . rw[if_neg z];exact h.mem p mp
 . rename_i hn;refine⟨?_,λq m=>?_⟩
   . rw[Xl];refine ZM.mpr ⟨h.nd,by simp,λa ha b hb e=>?_⟩;have hb':b=x:=by simpa using hb
     exact hn (by rw[<- hb',<- e];exact ha)
   . rcases XJ.mp m with m | m
     . exact h.mem q m
     . rw[Xq.mp m];exact⟨hx,h0,h9⟩
theorem sE.vF(h:sE L D): ∀ x,0<=fP D x/\fP D x<=999:=λx=>by
 by_cases hx:x∈D.map (·.1)
 . obtain⟨q,m,rfl⟩:=Xk.mp hx;rw[xT h.nd q m];exact(h.mem q m).2
 . rw[vi hx];decide
theorem JV{t:aQ->PH->RV Bool}{b:aQ->PH->RV Fl}{f:Nat}{e:aQ}{h h1:PH}(ht:t e h= .ok false h1):cF t b (f+1) e h= .ok (.nx e) h1:=by
 rw[cF,ht];rfl
theorem KN{t:aQ->PH->RV Bool}{b:aQ->PH->RV Fl}{f:Nat}{e e1:aQ}{h h1 h2:PH}(ht:t e h= .ok true h1)(hb:b e h1= .ok (.nx e1) h2):cF t b (f+1) e h=cF t b f e1 h2:=by
 rw[cF,ht,dm,if_pos rfl,hb,dm]
theorem sE.len(h:sE L D):D.length<=L.length:=by
 have:=Zo h.nd (l₂ :=L) (λx hx=>by obtain⟨q,hq,rfl⟩:=Xk.mp hx;exact(h.mem q hq).1);simpa using this
theorem og s r:(behind s r).held=s.held:=by
 cases r with
 | leap j e0=>show(if e0.val (fP s.ps)=0 then(⟨s.row+1,s.ps,s.held⟩:eL) else⟨j.toNat,s.ps,s.held⟩).held=s.held;split<;>rfl
 | _=>rfl
theorem qc(h:bC rs s=false): ∃ r,rs[s.row]?=Wv r/\own s.held r=true:=by
 unfold bC at h;cases e:rs[s.row]? with
 | none=>rw[e] at h;cases h
 | some r=>rw[e] at h;exact⟨r,rfl,by simpa using h⟩
theorem ba{a b:MS}{c:CF}{e e1:aQ}{h h1:PH}(q:a c e h= .ok (.nx e1) h1):ae a b c e h=b c e1 h1:=by rw[Dj,q,dc,An]
theorem Kx:uT t b c e h=cF (t c) (b c) 100000 e h:=(rfl)
theorem gx ss:(d9 ss).Perm ss:=Z6 ss _
theorem BQ(nd:ss.Nodup):(d9 ss).Pairwise jU:=by
 have h1:=Zn iw (λa b=>by simpa using j5 a b) ss;have h2:=(gx ss).nodup_iff.mpr nd;refine h1.imp₂ (λa b z1 z2=>?_) h2;rcases nj z2 with z | z
 . exact z
 . unfold rh at z1;simp[z] at z1
theorem cK: ∀ n s,(bu rs n s).held=s.held
 | 0,s=>by unfold bu;split<;>rfl
 | n+1,s=>by
  unfold bu;split
  . rfl
  . split
    . rfl
    . rw[cK n,og]
noncomputable def sI(ns:List Int):PO:= .kZ (ns.map PV.int)
noncomputable def bw(q:Int × Int × Int):PO:= .lst [.int q.1,.int q.2.1,.int q.2.2]
theorem Pz:(bw q).hX n=true:=rfl
section
variable{h:PH}{n:Nat}{x y z v:PV}{fr:PO}{q q':Int × Int × Int}{g g':PH}
theorem VY:xQ n (.int 0) v h (Wv (.lst [x,y,z]))= .ok () (h.set n (.lst [v,y,z])):=rfl
theorem KG:xQ n (.int 2) v h (Wv (.lst [x,y,z]))= .ok () (h.set n (.lst [x,y,v])):=rfl
theorem dN(hv:v.flat=true):P3.settle (fr::bw q::g) v (fr::bw q'::(g++g'))= .ok v (fr::bw q'::g) :=
 ky (h:=fr::bw q::g) (g:=g') (i:=1) (o:=bw q) (o':=bw q') hv rfl rfl Pz
theorem k8:P3.settle (fr::bw q::g) v (fr::bw q'::g)= .ok v (fr::bw q'::g):=ox (h:=fr::bw q::g) (i:=1) (o:=bw q) (o':=bw q')
end
theorem NG{xs:List PV}{c:Int}(c0:0<=c)(c1:c < xs.length): ∃ x∈xs,dZ xs c=Wv x:=by
 obtain⟨n,rfl⟩:=XX c0;exact⟨xs[n]'(by omega),YM _,P3.eW rfl (WD (by omega))⟩
theorem nA{ss:List Str}{v:Int}(h0:0<=v)(h1:v < ss.length): ∃ x∈ss,dZ (ss.map PV.str) v=Wv (.str x):=by
 obtain⟨n,en⟩:=XX h0;subst en;have hn:n < ss.length:=by omega
 exact⟨ss[n],YM hn,P3.eW rfl (by rw[WT,WD hn];rfl)⟩
section
variable{pg:Tb}(T:bN pg)
include T
theorem cv j fr q m (m0:0 < m) (m9:m<=1000000): ∃(v:Int)(q':Int × Int × Int),0<=v/\v < m/\ ∀ g,run pg (j+1) "_law_take" [.ref 1,.int m] (fr::bw q::g)= .ok (.int v) (fr::bw q'::g):=by
 obtain⟨a,b,c⟩:=q;have b0: ∀{q q':Int × Int × Int}{g:PH}{v:PV},P3.settle (fr::bw q::g) v (fr::bw q'::g)= .ok v (fr::bw q'::g):=k8;simp only[bw] at b0 ⊢;by_cases z:0 < a
 . refine⟨a % m,(a / m,b,c+1),ZG _ (by omega),abr _ m0,λg=>?_⟩;rw[run_eq T.nW rfl];simp? (disch:=first | omega | exact mm) only[fq,jz,KG,rR,yu,z];exact b0 (q:=(a,b,c)) (q':=(a / m,b,c+1))
 . let x:=(b % 2147483647+31*(c+1))*48271 % 2147483629
   let y:=(x / 11+17*(c+1))*69621 % 2147483587
   refine⟨y / 7 % m,(a,b,c+1),ZG _ (by omega),abr _ m0,λg=>?_⟩;rw[run_eq T.nW rfl];have m1: ∀(i:Int) h,dF (.int i) (.int 48271) h= .ok (.int (i*48271)) h:=λi h=>tU (by omega);have m2: ∀(i:Int) h,dF (.int i) (.int 69621) h= .ok (.int (i*69621)) h:=λi h=>tU (by omega);simp? [fq,jz,KG,rR,yc,yu,z,m1,m2];exact b0 (q:=(a,b,c)) (q':=(a,b,c+1))
theorem O4 j ns (hn:ns.length<=63): ∃ q,run pg (j+1) "_law_box" [.ref 0,.int 0] [sI ns]= .ok (.ref 1) [sI ns,bw q]:=by
 have ln:bV [.ref 0] [sI ns]= .ok (.int ns.length) [sI ns]:=by rw[So (xs:=ns.map PV.int) rfl,Wy]
 have t18:(10:Int) ^ ace 18=1000000000000000000:=by decide +kernel
 have mB: ∀(i:Int)(p:Bool) h,dF (.int i) (.int (if p=true then 1 else 0)) h= .ok (.int (i*if p=true then 1 else 0)) h:=λi p h=>tU (by split<;>omega);by_cases z:0 < (ns.length:Int)
 . obtain⟨x,xm,ex⟩:=NG (xs:=ns.map PV.int) (c:=0 % (ns.length)) (ZG _ (by omega)) (by rw[Wy];exact abr _ z);obtain⟨i,_,rfl⟩:=Xk.mp xm;have ix:aB (.ref 0) (.int (0 % (ns.length))) [sI ns]= .ok (.int i) [sI ns]:=by rw[xl];show Qh _ _ (Wv (.kZ _))=_;rw[QU,ex];rfl
   refine⟨((i+1009*(0 / (ns.length)))*(if decide (1000000000000000000<=i+1009*(0 / (ns.length)))=true then 1 else 0),i+1009*(0 / (ns.length)),0),?_⟩;rw[run_eq T.qg rfl];simp? [gH,kX,ln,z,ix,mB];exact bh rfl
 . refine⟨(0,0,0),?_⟩;rw[run_eq T.qg rfl];simp? [gH,kX,ln,z,mB];exact bh rfl
end
theorem GH(h0:0<=v)(h1:v < 5): ∃ o:Bo,dZ [PV.str "add",.str "sub",.str "mul",.str "less",.str "same"] v=Wv (.str o.w):=by
 have:v=0\/v=1\/v=2\/v=3\/v=4:=by omega
 rcases this with rfl | rfl | rfl | rfl | rfl
 . exact⟨.add,rfl⟩
 . exact⟨.sub,rfl⟩
 . exact⟨.mul,rfl⟩
 . exact⟨.less,rfl⟩
 . exact⟨.same,rfl⟩
theorem HE(h0:0<=v)(h1:v < 7): ∃ n ,0<=n/\n<=999/\dZ [PV.int 0,.int 1,.int 2,.int 3,.int 7,.int 500,.int 999] v=Wv (.int n):=by
 have:v=0\/v=1\/v=2\/v=3\/v=4\/v=5\/v=6:=by omega
 rcases this with rfl | rfl | rfl | rfl | rfl | rfl | rfl<;>exact⟨_,by decide,by decide,rfl⟩
def Sm.RY(P:Str->Prop):Sm->Prop
 | .num _=>True
 | .of x=>P x
 | .un e=>e.RY P
 | .bin _ a b=>a.RY P/\b.RY P
section
variable{pg:Tb}(T:bN pg)
include T
theorem xX j fr {ps:List Str} (p0:0 < ps.length) (p9:ps.length<=1000): ∀ d q(g:PH),g[np]?=Wv (.lst (ps.map PV.str)) ->
  ∃(e:Sm)(q':Int × Int × Int),e.ok/\e.dp<=d+1/\e.RY (· ∈ps)/\run pg (j+d+2) "_law_sum" [.ref 1,.ref (np+1+1),.int d] (fr::bw q::g)= .ok (iF e) (fr::bw q'::g):=by
 have num: ∀(k:Nat)(d:Int)(q:Int × Int × Int)(g:PH)(w:Int),d=0\/w < 2-> ∃(e:Sm)(q':Int × Int × Int)(G:PH),e.ok/\e.dp=1/\e.RY (· ∈ps)/\ ∀ rest:MS,∀ u:Option PV,
   ae (bW (HV (mQ (aa 2) (eI 0)) (aF (aj BM (aa 3) (eI 2)))) (ay (aq (ab (eS "num") (ab (aj aB (bD (ab (eI 0) (ab (eI 1) (ab (eI 2) (ab (eI 3) (a3 (eI 7) (eI 500) (eI 999))))))) (ag "_law_take" (a2 (aa 0) (eI 7)))) ah)))) cE) rest (run pg (k+1)) [Wv (.ref 1),Wv (.ref (np+1+1)),Wv (.int d),Wv (.int w),u] (fr::bw q::g)= .ok (.rt (iF e)) (fr::bw q'::(g++G)):=λk d q g w hw=>by
  obtain⟨a,q',a0,a1,ea⟩:=cv T k fr q 7 (by decide) (by decide);obtain⟨n,n0,n1,en⟩:=HE a0 a1;refine⟨.num n,q',[.lst [.int 0,.int 1,.int 2,.int 3,.int 7,.int 500,.int 999]],⟨n0,n1⟩,rfl,trivial,λrest u=>?_⟩;by_cases z:d=0
  . simp? [z,ea,en,iF]
  . have z2:=hw.resolve_left z;simp? [z,z2,ea,en,iF]
 intro d
 induction d with
 | zero =>
  intro q g hp
  obtain⟨w,q1,w0,w1,ew⟩:=cv T j fr q 8 (by decide) (by decide)
  obtain⟨e,q',G,h1,h2,h3,h4⟩:=num j (((0:Nat))) q1 g w (.inl rfl)
  refine⟨e,q',h1,by omega,h3,?_⟩
  rw[adV,run_eq T.gu rfl]
  simp? [cI,eO,ew,↓h4,dN (fg e)]
 | succ d ih =>
  intro q g hp
  have dd:((d+1:Nat)) - 1=(d:Int):=by omega
  have dn: ¬ ((d+1:Nat):Int)=0:=by omega
  have hlt:=aC hp
  obtain⟨w,q1,w0,w1,ew⟩:=cv T (j+d+1) fr q 8 (by decide) (by decide)
  rw[show j+(d+1)+2=(j+d+2)+1 by omega]
  by_cases c1:w < 2
  . obtain⟨e,q',G,h1,h2,h3,h4⟩:=num (j+d+1) ((d+1:Nat)) q1 g w (.inr c1);refine⟨e,q',h1,by omega,h3,?_⟩;rw[run_eq T.gu rfl];simp? [cI,eO,ew,↓h4,dN (fg e)]
  . by_cases c2:w < 5
    . obtain⟨a,q2,a0,a1,ea⟩:=cv T (j+d+1) fr q1 ps.length (by omega) (by omega);obtain⟨x,hx,ex⟩:=nA a0 a1;refine⟨.of x,q2,trivial,by simp[Sm.dp],hx,?_⟩;rw[run_eq T.gu rfl];simp? [cI,eO,ew,dn,c1,c2,hp,ea,ex,iF,Wy];exact k8 (v:=iF (.of x))
    . by_cases c3:w=5
      . obtain⟨e,q2,h1,h2,h3,h4⟩:=ih q1 g hp;refine⟨.un e,q2,h1,by unfold Sm.dp;omega,h3,?_⟩;subst c3;rw[run_eq T.gu rfl];simp? [cI,eO,ew,dn,dd,h4];exact k8 (v:=iF (.un e))
      . let W:PH:=[.lst [.str "add",.str "sub",.str "mul",.str "less",.str "same"]]
        obtain⟨a,q2,a0,a1,ea⟩:=cv T (j+d+1) fr q1 5 (by decide) (by decide);obtain⟨o,eo⟩:=GH a0 a1;have hp':(g++W)[np]?=Wv (.lst (ps.map PV.str)):=by rw[aw hlt];exact hp
        obtain⟨e,q3,h1,h2,h3,h4⟩:=ih q2 (g++W) hp';obtain⟨f,q4,i1,i2,i3,i4⟩:=ih q3 (g++W) hp';refine⟨.bin o e f,q4,⟨h1,i1⟩,by unfold Sm.dp;omega,⟨h3,i3⟩,?_⟩;rw[run_eq T.gu rfl];simp only[W] at h4 i4;simp? [cI,eO,ew,dn,dd,c1,c2,c3,ea,eo,h4,i4];exact dN (v:=iF (.bin o e f)) (fg _)
end
noncomputable def xH(x:Str):=decide (x.cps.size<=20)&&x.cps.toList.all λc=>decide (c < 16 ^ 8)
mutual
def zt:PV->Bool
 | .non=>true
 | .int i=>decide (0<=i/\i<=1000000)
 | .str x=>xH x
 | .tup xs=>j9 xs
 | _=>false
def j9:List PV->Bool
 | []=>true
 | x::r=>zt x&&j9 r
end
mutual
def Iz:PV->Nat
 | .str x=>x.cps.size
 | .tup xs=>HP xs
 | _=>0
def HP:List PV->Nat
 | []=>0
 | x::r=>Iz x+1+HP r
end
mutual
def Gk:PV->Nat
 | .tup xs=>uU xs+1
 | _=>0
def uU:List PV->Nat
 | []=>0
 | x::r=>max (Gk x) (uU r)
end
theorem wV(h0:0<=i)(h9:i<=1000000):(abt i).shown.length<=13:=PyData.shown_int_le (by omega)
theorem Ba{i:Int}(h0:0<=i)(h9:i<=1000000):i.natAbs.log2 < 1920:=by
 by_cases z:i.natAbs=0
 . rw[z];decide
 . rw[Nat.log2_lt z];exact WQ (show i.natAbs < 2 ^ 20 by omega) (Nat.pow_le_pow_right (by decide) (by decide))
mutual
theorem zt.d: ∀(v:PV),zt v=true-> ∃ d:ZP,(∀ sub,ji sub v=Wv d)/\d.showable=true/\d.hasDict=false/\d.depth=Gk v/\d.bulk=Iz v/\aan 13 d=true
 | .non,_=>⟨.none,λ_=>rfl,rfl,rfl,rfl,rfl,rfl⟩
 | .int i,h=>by
  rw[zt,decide_eq_true_eq] at h;exact⟨.int i,λ_=>rfl,by rw[aeq,decide_eq_true_eq];exact Ba h.1 h.2,rfl,rfl,rfl,by rw[aan,decide_eq_true_eq];exact wV h.1 h.2⟩
 | .str x,h=>by
  rw[zt,xH,WX] at h;exact⟨.str x,λ_=>rfl,rfl,rfl,rfl,rfl,by rw[aan];exact h.2⟩
 | .tup xs,h=>by
  rw[zt] at h;obtain⟨ds,e,h1,h2,h3,h4,h5⟩:=j9.d xs h;exact⟨.tuple ds,λsub=>by rw[ji,e];rfl,by rw[aeq];exact h1,by rw[PyData.hasDict];exact h2,by rw[adW,h3,Gk],by rw[aem,h4,Iz],by rw[aan];exact h5⟩
theorem j9.d: ∀(xs:List PV),j9 xs=true-> ∃ ds:List ZP,(∀ sub,bX sub xs=Wv ds)/\abu ds=true/\abF ds=false/\ZF ds=uU xs/\ac1 ds=HP xs/\aaJ 13 ds=true
 | [],_=>⟨[],λ_=>rfl,rfl,rfl,rfl,rfl,rfl⟩
 | x::r,h=>by
  rw[j9,WX] at h;obtain⟨d,e,h1,h2,h3,h4,h5⟩:=zt.d x h.1;obtain⟨ds,e',i1,i2,i3,i4,i5⟩:=j9.d r h.2;exact ⟨d::ds,λsub=>by rw [bX,e,e'],by rw [abu,h1,i1];rfl,by rw [abF,h2,i2];rfl,by rw [ZF,h3,i3,uU],by rw [ac1,h4,i4,HP],by rw [aaJ,h5,i5];rfl⟩
end
theorem zN{ys : List PV}{ds : List ZP}(h1 : abu ds = true)(h2 : abF ds = false)(h3 : ZF ds <= 60)(h4 : ac1 ds <= 1000000)(h5 : aaJ 13 ds = true) : BZ (.tuple ds) /\ BZ (.list ds) :=
  ⟨⟨by exact h1, by exact h2, by rw [adW]; omega, acv (B := 13) (by decide) (by decide) (by exact h5) (by rw [aem]; omega)⟩,
   ⟨by exact h1, by exact h2, by rw [adW]; omega, acv (B := 13) (by decide) (by decide) (by exact h5) (by rw [aem]; omega)⟩⟩
theorem JD(h:j9 ys=true)(hd:uU ys<=60)(hb:HP ys<=1000000): ∃ x ,∀ g,eG [.tup ys] g= .ok (.str x) g:=by
 obtain ⟨ds,e,h1,h2,h3,h4,h5⟩:=j9.d ys h;refine ⟨(abf ds).shown,λg=>?_⟩;have e2:dat 6 g (.tup ys)=Wv (.tuple ds):=by unfold dat;rw[ji,e];rfl
 unfold eG;simp only[e2];exact if_pos (zN (ys:=ys) h1 h2 (by omega) (by omega) h5).1
theorem NW(h:j9 ys=true)(hd:uU ys<=60)(hb:HP ys<=1000000): ∃ x ,∀ g n,g[n]?=Wv (.lst ys)->eG [.ref n] g= .ok (.str x) g:=by
 obtain⟨ds,e,h1,h2,h3,h4,h5⟩:=j9.d ys h;refine⟨(Zp ds).shown,λg n en=>?_⟩;have e2:dat 6 g (.ref n)=Wv (.list ds):=by unfold dat;simp only[ji,en,e,YW]
 unfold eG;simp only[e2];exact if_pos (zN (ys:=ys) h1 h2 (by omega) (by omega) h5).2
theorem Nu(h:xH x=true):x.cps.size<=20:=by rw[xH,WX,decide_eq_true_eq] at h;exact h.1
theorem pq: ∀ ss:List Str,bX f (ss.map PV.str)=Wv (ss.map aaP)
 | []=>rfl
 | x::r=>by rw[WH,bX,pq r];rfl
theorem wj{ss:List Str}(e:h[n]?=Wv (.lst (ss.map PV.str))):dat (k+1) h (.ref n)=Wv (.list (ss.map aaP)):=by
 unfold dat;simp only[ji,e,pq,YW]
theorem ne_nil(e1:h[n]?=Wv (.lst (ss.map PV.str)))(e2:h[m]?=Wv (.lst []))(ok: ∀ x∈ss,aaE x=true):ke (.ref n) (.ref m) h= .ok (.bl (!decide (ss=[]))) h:=by
 have d1:=wj (k:=5) e1;have d2:=wj (k:=5) (ss:=[]) (n:=m) e2;have sc:lD (.ref n) (.ref m)=false:=rfl;have dp: ∀ xs:List Str,ac2 (.list (xs.map aaP))=xs.all aaE:=λxs=>by
  rw[ac2,PyProof.Rows.canLayAll_strs']
 have al:alike (.ref n) (.ref m) h=Wv (decide (ss=[])):=by
  unfold alike;rw[sc,d1,d2];have c1:(Zp (ss.map aaP)).canLay0=true:=by rw[dp];exact ZU.mpr ok
  have c2:(Zp (([]).map aaP)).canLay0=true:=by rfl
  have c3:min (Zp (ss.map aaP)).depth (Zp (([]:List Str).map aaP)).depth<=64:=Xb (aaM _ _) (by decide);simp only[Zv,if_false,c1,c3,if_true];cases ss with
  | nil=>rfl
  | cons x r=>rfl
 have nd:gS h (.ref n)=false:=by simp only[gS,e1]
 unfold ke;rw[al,nd];rfl
theorem cR(e:h[n]?=Wv (.lst xs)):uj.kC ⟨Wv n,xs⟩ h=true:=by
 unfold uj.kC;simp only[e,true_or,decide_true]
def nz x:=xH x&& !decide (x=WU "")
theorem tw(h:nz x=true):xH x=true:=by unfold nz at h;rw[WX] at h;exact h.1
theorem Aw(h:nz x=true):x≠WU "" :=by unfold nz at h;rw[WX] at h;simpa using h.2
def B2(s:List Str):=s.length<=20/\ ∀ x∈s,nz x=true/\aaE x=true
def vo(s0 s1 s2 s3:List Str)(x:Str):=x= "clock" \/x= "lot" \/(s0≠[]/\(x= "get" \/x= "put"))\/(s1≠[]/\(x= "take" \/x= "free"))\/(s2≠[]/\(x= "send" \/x= "fetch"))\/(s3≠[]/\(x= "say" \/x= "hear"))
structure BE(J:PH)(nn:Nat)(s0 s1 s2 s3:List Str):Prop where
 at_: ∃ b0 b1 b2 b3:Nat,J[nn]?=Wv (.lst [.ref (b0+1+1),.ref (b1+1+1),.ref (b2+1+1),.ref (b3+1+1)])/\J[b0]?=Wv (.lst (s0.map PV.str))/\J[b1]?=Wv (.lst (s1.map PV.str))/\J[b2]?=Wv (.lst (s2.map PV.str))/\J[b3]?=Wv (.lst (s3.map PV.str))
 ok:B2 s0/\B2 s1/\B2 s2/\B2 s3
theorem BE.app(h:BE J nn s0 s1 s2 s3):BE (J++g) nn s0 s1 s2 s3:=by
 obtain⟨b0,b1,b2,b3,e,e0,e1,e2,e3⟩:=h.at_;exact⟨⟨b0,b1,b2,b3,(aw (aC e)).trans e,(aw (aC e0)).trans e0,(aw (aC e1)).trans e1,(aw (aC e2)).trans e2,(aw (aC e3)).trans e3⟩,h.ok⟩
noncomputable def Rw.th:Rw->Option (Nat × Str)
 | .get _ b=>Wv (0,b) | .put b _=>Wv (0,b) | .take l=>Wv (1,l) | .free l=>Wv (1,l)
 | .send l _=>Wv (2,l) | .fetch _ l=>Wv (2,l) | .say d _=>Wv (3,d)
 | _=>Wx
def Rw.nm:Rw->Option (Nat × Str)
 | .hear _ d=>Wv (3,d)
 | r=>r.th
theorem Tw{r:Rw}(h:r.th=Wv z):r.nm=Wv z:=by cases r<;>first | exact h | cases h
noncomputable def UI(s0 s1 s2 s3:List Str) 
 | 0=>s0 | 1=>s1 | 2=>s2 | _=>s3
def BJ(s0 s1 s2 s3:List Str)(r:Rw):= ∀ k t,r.nm=Wv (k,t)->t∈UI s0 s1 s2 s3 k
noncomputable def F3:List (Key × PV):=[(.inr "get",.int 0),(.inr "put",.int 0),(.inr "take",.int 1),(.inr "free",.int 1),(.inr "send",.int 2),(.inr "fetch",.int 2),(.inr "say",.int 3),(.inr "hear",.int 3)]
theorem Dx:cm [] F3=F3:=by decide +kernel
theorem wN a h:jw (.str a) (.tup [.str "clock",.str "lot"]) h= .ok (.bl (decide (a∈(["clock", "lot"]:List Str)))) h:=yr (ss:=["clock", "lot"])
theorem E4 a h:jw (.str a) (.tup [.str "get",.str "fetch",.str "hear"]) h= .ok (.bl (decide (a∈(["get", "fetch", "hear"]:List Str)))) h:=yr (ss:=["get", "fetch", "hear"])
theorem KQ a h:jw (.str a) (.tup [.str "take",.str "free"]) h= .ok (.bl (decide (a∈(["take", "free"]:List Str)))) h:=yr (ss:=["take", "free"])
def EZ(r:Rw) i t:= ∀ k u,r.nm=Wv (k,u)->k=i∧u=t
def RowC x i:=(x∈(["get", "fetch", "hear"]:List Str)∧ ∀ y t ,∃ r ,r.w=x∧r.ps=[.str y,.str t]∧(∀ L n,y∈L->fk L n r)∧EZ r i t) ∨
 (¬ x∈(["get", "fetch", "hear"]:List Str)∧x∈(["take", "free"]:List Str)∧ ∀ t ,∃ r ,r.w=x∧r.ps=[.str t]∧(∀ L n,fk L n r)∧EZ r i t) ∨
 (¬ x∈(["get", "fetch", "hear"]:List Str)∧ ¬ x∈(["take", "free"]:List Str)∧ ∀ t e,∃ r ,r.w=x∧r.ps=[.str t,iF e]∧(∀ L n,jo e->fk L n r)∧EZ r i t)
theorem ou(e:r.nm=Wv (i,t)):EZ r i t:=λk u h=>by rw [e] at h;cases h;exact ⟨rfl,rfl⟩
theorem JN:RowC "get" 0:= .inl ⟨by decide +kernel,λy t=>⟨.get y t,rfl,rfl,λ_ _ h=>h,ou rfl⟩⟩
theorem Gx:RowC "put" 0:= .inr (.inr ⟨by decide +kernel,by decide +kernel,λt e=>⟨.put t e,rfl,rfl,λ_ _ h=>h,ou rfl⟩⟩)
theorem EH:RowC "take" 1:= .inr (.inl ⟨by decide +kernel,by decide +kernel,λt=>⟨.take t,rfl,rfl,λ_ _=>trivial,ou rfl⟩⟩)
theorem F6:RowC "free" 1:= .inr (.inl ⟨by decide +kernel,by decide +kernel,λt=>⟨.free t,rfl,rfl,λ_ _=>trivial,ou rfl⟩⟩)
theorem EO:RowC "send" 2:= .inr (.inr ⟨by decide +kernel,by decide +kernel,λt e=>⟨.send t e,rfl,rfl,λ_ _ h=>h,ou rfl⟩⟩)
theorem B0:RowC "fetch" 2:= .inl ⟨by decide +kernel,λy t=>⟨.fetch y t,rfl,rfl,λ_ _ h=>h,ou rfl⟩⟩
theorem IE:RowC "say" 3:= .inr (.inr ⟨by decide +kernel,by decide +kernel,λt e=>⟨.say t e,rfl,rfl,λ_ _ h=>h,ou rfl⟩⟩)
theorem D3:RowC "hear" 3:= .inl ⟨by decide +kernel,λy t=>⟨.hear y t,rfl,rfl,λ_ _ h=>h,ou rfl⟩⟩
theorem JH(N:BE J nn s0 s1 s2 s3)(h:vo s0 s1 s2 s3 x):x= "clock" ∨x= "lot" ∨
  ∃ (i:Nat) (b:Nat) (s:List Str) (rf:List PV),cx F3 (.inr x)=Wv (.int i)∧ ¬ x∈(["clock", "lot"]:List Str)∧J[nn]?=Wv (.lst rf)∧dZ rf i=Wv (.ref (b+1+1))∧J[b]?=Wv (.lst (s.map PV.str))∧s≠[]∧B2 s∧RowC x i∧s=UI s0 s1 s2 s3 i:=by
 obtain ⟨b0,b1,b2,b3,e,e0,e1,e2,e3⟩:=N.at_;obtain ⟨o0,o1,o2,o3⟩:=N.ok;rcases h with h | h | ⟨z,h⟩ | ⟨z,h⟩ | ⟨z,h⟩ | ⟨z,h⟩
 . exact .inl h
 . exact .inr (.inl h)
 . rcases h with rfl | rfl
   . exact .inr (.inr ⟨0,b0,s0,_,by decide +kernel,by decide +kernel,e,rR,e0,z,o0,JN,rfl⟩)
   . exact .inr (.inr ⟨0,b0,s0,_,by decide +kernel,by decide +kernel,e,rR,e0,z,o0,Gx,rfl⟩)
 . rcases h with rfl | rfl
   . exact .inr (.inr ⟨1,b1,s1,_,by decide +kernel,by decide +kernel,e,yc,e1,z,o1,EH,rfl⟩)
   . exact .inr (.inr ⟨1,b1,s1,_,by decide +kernel,by decide +kernel,e,yc,e1,z,o1,F6,rfl⟩)
 . rcases h with rfl | rfl
   . exact .inr (.inr ⟨2,b2,s2,_,by decide +kernel,by decide +kernel,e,yu,e2,z,o2,EO,rfl⟩)
   . exact .inr (.inr ⟨2,b2,s2,_,by decide +kernel,by decide +kernel,e,yu,e2,z,o2,B0,rfl⟩)
 . rcases h with rfl | rfl
   . exact .inr (.inr ⟨3,b3,s3,_,by decide +kernel,by decide +kernel,e,Di,e3,z,o3,IE,rfl⟩)
   . exact .inr (.inr ⟨3,b3,s3,_,by decide +kernel,by decide +kernel,e,Di,e3,z,o3,D3,rfl⟩)
theorem J4(c0:0<=c)(c1:c < 4): ∃ n ,2<=n/\n<=1000/\dZ [PV.int 2,.int 3,.int 7,.int 1000] c=Wv (.int n):=by
 rcases(show c=0\/c=1\/c=2\/c=3 by omega) with rfl | rfl | rfl | rfl<;>exact⟨_,by decide,by decide,rfl⟩
section
variable{pg:Tb}(T:bN pg)
include T
theorem Iy j fr {ps ks:List Str} (p0:0 < ps.length) (p9:ps.length<=1000) (hL: ∀ x∈ps,x∈L) (k0:0 < ks.length) (k9:ks.length<=1000) (hK: ∀ x∈ks,vo s0 s1 s2 s3 x) q (N:BE J nn s0 s1 s2 s3) (ep:J[np]?=Wv (.lst (ps.map PV.str))) (ek:J[nk]?=Wv (.lst (ks.map PV.str))) :
  ∃(r:Rw)(q':Int × Int × Int),(∀ n,fk L n r)/\BJ s0 s1 s2 s3 r/\run pg (j+5) "_law_touch_row" [.ref 1,.ref (nn+1+1),.ref (np+1+1),.ref (nk+1+1)] (fr::bw q::J)= .ok (bF r) (fr::bw q'::J):=by
 obtain⟨a,q1,a0,a1,ea⟩:=cv T (j+3) fr q ks.length (by omega) (by omega);obtain⟨x,hx,ex⟩:=nA a0 a1;obtain⟨b,q2,b0,b1,eb⟩:=cv T (j+3) fr q1 ps.length (by omega) (by omega);obtain⟨y,hy,ey⟩:=nA b0 b1;have yL:=hL y hy;rcases JH N (hK x hx) with rfl | rfl | ⟨i,bb,s,rf,v1,v2,v3,v4,v5,v6,v7,cl,sv⟩
 . refine ⟨.clock y,q2,λ_=>yL,(λ_ _ h=>by cases h),?_⟩;have m1:(WU "clock")∈(["clock", "lot"]:List Str):=by decide +kernel
   rw [run_eq T.cq rfl];simp? [bj,bQ,ek,ep,Wy,ea,ex,eb,ey,wN,m1,bF,Rw.w,Rw.ps];exact k8
 . obtain ⟨c,q3,c0,c1,ec⟩:=cv T (j+3) fr q2 4 (by decide) (by decide);obtain ⟨n,n0,n9,en⟩:=J4 c0 c1;refine ⟨.lot y n,q3,λ_=>⟨yL,n0,n9⟩,(λ_ _ h=>by cases h),?_⟩;have m1:(WU "lot")∈(["clock", "lot"]:List Str):=by decide +kernel
   rw [run_eq T.cq rfl];simp? [bj,bQ,ek,ep,Wy,ea,ex,eb,ey,wN,m1,ec,en,bF,Rw.w,Rw.ps];exact dN rfl
 . have sp:=adf.mpr v6;have sl:=v7.1;obtain⟨c,q3,c0,c1,ec⟩:=cv T (j+3) fr q2 s.length (by omega) (by omega);obtain⟨t,ht,et⟩:=nA c0 c1;have rin: ∀{r:Rw},EZ r i t->BJ s0 s1 s2 s3 r:=λh k u e=>by obtain⟨rfl,rfl⟩:=h k u e;rw[<- sv];exact ht
   have old: ∀{n:Nat}{o:PO}(g:PH),J[n]?=Wv o->(J++g)[n]?=Wv o:=λg e=>(aw (aC e)).trans e;have dk:Qc (J.length+1+1) [((.inr "get"),PV.int 0),(.inr "put",.int 0),(.inr "take",.int 1),(.inr "free",.int 1),(.inr "send",.int 2),(.inr "fetch",.int 2),(.inr "say",.int 3),(.inr "hear",.int 3)] (fr::bw q2::(J++[.dct []]))= .ok (.ref (J.length+1+1)) (fr::bw q2::(J++[.dct F3])):=by
    have:=AF (h:=fr::bw q2::J) (kvs:=F3) (by simp[F3]);rw[Dx] at this;exact this
   have w3:=old [.dct F3] v3;have w5:=old [.dct F3] v5;rcases cl with⟨g1,g2⟩ | ⟨g1,g2,g3⟩ | ⟨g1,g2,g3⟩
   . obtain⟨r,r1,r2,r3,r4⟩:=g2 y t;have rv:bF r= .tup [.str x,.str y,.str t]:=by unfold bF;rw[r1,r2]
     refine⟨r,q3,λn=>r3 L n yL,rin r4,?_⟩;rw[rv,run_eq T.cq rfl];simp? [bj,bQ,ek,ep,Wy,ea,ex,eb,ey,wN,v2,lO,pS,lq,pT,ph,pA,dk,v1,w3,v4,w5,ec,et,E4,g1];exact dN rfl
   . obtain⟨r,r1,r2,r3,r4⟩:=g3 t;have rv:bF r= .tup [.str x,.str t]:=by unfold bF;rw[r1,r2]
     refine⟨r,q3,λn=>r3 L n,rin r4,?_⟩;rw[rv,run_eq T.cq rfl];simp? [bj,bQ,ek,ep,Wy,ea,ex,eb,ey,wN,v2,lO,pS,lq,pT,ph,pA,dk,v1,w3,v4,w5,ec,et,E4,g1,KQ,g2];exact dN rfl
   . obtain⟨e,q4,h1,h2,h3,h4⟩:=xX T j fr p0 p9 2 q3 (J++[.dct F3]) (old [.dct F3] ep);have hs:jo e:=⟨h1,by omega⟩
     obtain⟨r,r1,r2,r3,r4⟩:=g3 t e;have rv:bF r= .tup [.str x,.str t,iF e]:=by unfold bF;rw[r1,r2]
     refine⟨r,q4,λn=>r3 L n hs,rin r4,?_⟩;have h4':run pg (j+4) "_law_sum" [.ref 1,.ref (np+1+1),.int 2] (fr::bw q3::(J++[.dct F3]))=_:=h4;rw[rv,run_eq T.cq rfl];simp? [bj,bQ,ek,ep,Wy,ea,ex,eb,ey,wN,v2,lO,pS,lq,pT,ph,pA,dk,v1,w3,v4,w5,ec,et,E4,g1,KQ,g2,h4'];exact dN (v:= .tup [.str x,.str t,iF e]) (by simp[PV.flat,PV.bo,fg])
end
structure KE(H:PH)(nd:Nat)(e:PV × List Str × List Str):Prop where
 at_: ∃(i:Int)(q b:Nat)(rf:List PV),e.1= .tup [.int i,.ref q]/\H[nd]?=Wv (.lst rf)/\dZ rf i=Wv (.ref b)/\H[b]?=Wv (.lst (e.2.2.map PV.str))/\H[q]?=Wv (.lst (e.2.1.map PV.str))
 ok: ∀ x∈e.2.2,aaE x=true
 le:e.2.1.length<=4
theorem KE.app(h:KE H nd e):KE (H++g) nd e:=by
 obtain⟨i,q,b,rf,h1,h2,h3,h4,h5⟩:=h.at_;exact⟨⟨i,q,b,rf,h1,(aw (aC h2)).trans h2,h3,(aw (aC h4)).trans h4,(aw (aC h5)).trans h5⟩,h.ok,h.le⟩
def kG:=(gT 2 (aA (gN 4) (aA (gN 5) cw)))
def kB:=(bW (aF (aj ke (aj aB (aa 1) (aa 4)) (bD ah))) (ai (aj aU (aj aU (aa 3) (aa 5)) (aa 5)) (gN 3)) cE)
theorem S3 c {ks:List Str} (E:KE H nd e) (e4:H[cc]?=Wv (.lst (ks.map PV.str))) (hl:ks.length<=900) a0 a2 u4 u5 n6 n7 n8 n9 :
  ∃(g':PH)(c':Nat)(ks':List Str)(v4 v5:Option PV),(H++g')[c']?=Wv (.lst (ks'.map PV.str))/\cc<=c'/\ks.length<=ks'.length/\ks'.length<=ks.length+10/\(∀ x∈ks',x∈ks\/(e.2.2≠[]/\x∈e.2.1)) /\
   br kG kB c e.1 [a0,Wv (.ref nd),a2,Wv (.ref cc),u4,u5,n6,n7,n8,n9] H= .ok (.nx [a0,Wv (.ref nd),a2,Wv (.ref c'),v4,v5,n6,n7,n8,n9]) (H++g'):=by
 obtain⟨i,q,b,rf,h1,e1,e2,e3,e5⟩:=E.at_;obtain⟨it,qs,ss⟩:=e;simp only at h1 e3 e5 ⊢;subst h1;have hq:qs.length<=4:=E.le;have l3:=aC e3;have l4:=aC e4;have l5:=aC e5;have ne:=ne_nil (h:=H++[.lst []]) (n:=b) (m:=H.length) (ss:=ss) (by rw[aw l3];exact e3) aR E.ok;by_cases z:ss=[]
 . refine⟨[.lst []],cc,ks,Wv (.int i),Wv (.ref q),by rw[aw l4];exact e4,WG _,WG _,by omega,λx m=> .inl m,?_⟩;simp? [kG,kB,e1,e2,ne,z]
 . have ad1:=j7 (h:=H++[.lst []]) (n:=cc) (m:=q) (by rw[aw l4];exact e4) (by rw[aw l5];exact e5) (by rw[Wy,Wy];omega);have ad2:aU (.ref (H.length+(0+1))) (.ref q) (H++[.lst [],.lst (ks.map PV.str++qs.map PV.str)])= .ok (.ref (H.length+(0+1+1))) (H++[.lst [],.lst (ks.map PV.str++qs.map PV.str),.lst (ks.map PV.str++qs.map PV.str++qs.map PV.str)]):=by
    have:=j7 (h:=H++[.lst [],.lst (ks.map PV.str++qs.map PV.str)]) (n:=H.length+(0+1)) (m:=q) (xs:=ks.map PV.str++qs.map PV.str) (ys:=qs.map PV.str) (by rw[aM];rfl) (by rw[aw l5];exact e5) (by rw[WR,Wy,Wy];omega);simpa using this
   refine⟨[.lst [],.lst (ks.map PV.str++qs.map PV.str),.lst (ks.map PV.str++qs.map PV.str++qs.map PV.str)],H.length+(0+1+1),ks++qs++qs,Wv (.int i),Wv (.ref q),by rw[aM,Xl,Xl];rfl,by omega,by simp only[WR];omega,by simp only[WR];omega,λx m=>?_,?_⟩
   . rcases XJ.mp m with m | m
     . rcases XJ.mp m with m | m
       . exact .inl m
       . exact .inr ⟨z,m⟩
     . exact .inr ⟨z,m⟩
   . simp? [kG,kB,e1,e2,ne,z,ad1,ad2]
theorem Qy c xs0 a0 a2 n6 n7 n8 n9: ∀(es:List (PV × List Str × List Str)) H cc(ks:List Str) u4 u5,(∀ e∈es,KE H nd e)->H[cc]?=Wv (.lst (ks.map PV.str))->H[n0]?=Wv (.lst xs0)->ks.length+10*es.length<=900 ->
  ∃(g':PH)(c':Nat)(ks':List Str)(v4 v5:Option PV),(H++g')[c']?=Wv (.lst (ks'.map PV.str))/\cc<=c'/\ks.length<=ks'.length/\ks'.length<=ks.length+10*es.length/\(∀ x∈ks',x∈ks\/ ∃ e∈es,e.2.2≠[]/\x∈e.2.1) /\
   bK ⟨Wv n0,xs0⟩ (br kG kB c) (es.map (·.1)) [a0,Wv (.ref nd),a2,Wv (.ref cc),u4,u5,n6,n7,n8,n9] H= .ok (.nx [a0,Wv (.ref nd),a2,Wv (.ref c'),v4,v5,n6,n7,n8,n9]) (H++g'):=by
 intro es
 induction es with
 | nil=>intro H cc ks u4 u5 _ e4 e0 _;exact⟨[],cc,ks,u4,u5,by rw[Xr];exact e4,WG _,WG _,by simp,λx m=> .inl m,by rw[Xr];exact oO (cR e0)⟩
 | cons e es ih =>
  intro H cc ks u4 u5 hE e4 e0 hl
  rw[WE] at hl
  obtain⟨g1,c1,k1,v4,v5,f1,f0,f2,f3,f4,f5⟩:=S3 c (hE e WW) e4 (by omega) a0 a2 u4 u5 n6 n7 n8 n9
  obtain⟨g2,c2,k2,w4,w5,i1,i0,i2,i3,i4,i5⟩:=ih (H++g1) c1 k1 v4 v5 (λx m=>(hE x (WY _ m)).app) f1 ((aw (aC e0)).trans e0) (by omega)
  refine⟨g1++g2,c2,k2,w4,w5,by rw[<- WV];exact i1,by omega,by omega,by rw[WE];omega,λx m=>?_,?_⟩
  . rcases i4 x m with m | ⟨e',m',z⟩
    . rcases f4 x m with m | z
      . exact .inl m
      . exact .inr ⟨e,WW,z⟩
    . exact .inr ⟨e',WY _ m',z⟩
  . rw[WH,k7 (cR e0),f5,dc,cb,i5,WV]
theorem Ks(a0:0<=a)(a1:a < 4)(b0:0<=b)(b1:b < 8)(c0:c=0\/c=1): ∃ m ,0<=m/\m<=10/\dZ [PV.int a,.int (3+b)] c=Wv (.int m):=by
 rcases c0 with rfl | rfl
 . exact⟨a,a0,by omega,rR⟩
 . exact⟨3+b,by omega,by omega,yc⟩
def Qi:=(ae (ai (ag "_law_take" (a2 (aa 0) (eI 8))) (gN 9)) (bW (mQ (aa 9) (eI 0)) (bS (eM aG bq (aa 7) (ab (aq (ab (eS "let") (ab (aj aB (aa 2) (ag "_law_take" (ab (aa 0) (ab (eB bV (a1 (aa 2))) ah)))) (ab (ag "_law_sum" (a3 (aa 0) (aa 2) (eI 2))) ah)))) ah))) (bW (mQ (aa 9) (eI 1)) (bS (eM aG bq (aa 7) (ab (aq (ab (eS "leap") (ab (ag "_law_take" (ab (aa 0) (ab (aj aU (aa 6) (eI 1)) ah))) (ab (ag "_law_sum" (a3 (aa 0) (aa 2) (eI 2))) ah)))) ah))) (bS (eM aG bq (aa 7) (ab (ag "_law_touch_row" (ab (aa 0) (a3 (aa 1) (aa 2) (aa 3)))) ah))))))
section
variable{pg:Tb}(T:bN pg)
include T
theorem Bi j fr {ps ks:List Str} (p0:0 < ps.length) (p9:ps.length<=1000) (hL: ∀ x∈ps,x∈L) (k0:0 < ks.length) (k9:ks.length<=1000) (hK: ∀ x∈ks,vo s0 s1 s2 s3 x) (N:BE J nn s0 s1 s2 s3) (ep:J[np]?=Wv (.lst (ps.map PV.str))) (ek:J[nk]?=Wv (.lst (ks.map PV.str))) (m9:m<=10) xs0 a4 a5 :
  ∀ ak rs q a8 a9,rs.length+ak.length<=1000 ->
  ∃(rs':List Rw)(q':Int × Int × Int)(b8 b9:Option PV),rs'.length=ak.length/\(∀ r∈rs',fk L m r/\BJ s0 s1 s2 s3 r) /\
   bK ⟨Wx,xs0⟩ (br (gN 8) Qi (run pg (j+5))) ak [Wv (.ref 1),Wv (.ref (nn+1+1)),Wv (.ref (np+1+1)),Wv (.ref (nk+1+1)),a4,a5,Wv (.int m),Wv (.ref (J.length+1+1)),a8,a9] (fr::bw q::(J++[.lst (rs.map bF)])) =
   .ok (.nx [Wv (.ref 1),Wv (.ref (nn+1+1)),Wv (.ref (np+1+1)),Wv (.ref (nk+1+1)),a4,a5,Wv (.int m),Wv (.ref (J.length+1+1)),b8,b9]) (fr::bw q'::(J++[.lst ((rs++rs').map bF)])):=by
 intro ak
 induction ak with
 | nil=>intro rs q a8 a9 _;exact⟨[],q,a8,a9,rfl,(λr m=>by cases m),by rw[Xr];exact gJ⟩
 | cons x ak ih =>
  intro rs q a8 a9 hl
  rw[WE] at hl
  obtain⟨w,q1,w0,w1,ew⟩:=cv T (j+4) fr q 8 (by decide) (by decide)
  have hz:(rs.map bF).length < 16777216:=by rw[Wy];omega
  have ep':(J++[PO.lst (rs.map bF)])[np]?=Wv (.lst (ps.map PV.str)):=by rw[aw (aC ep)];exact ep
  have ek':(J++[PO.lst (rs.map bF)])[nk]?=Wv (.lst (ks.map PV.str)):=by rw[aw (aC ek)];exact ek
  suffices st: ∃(r:Rw)(q2:Int × Int × Int)(u9:Option PV),(fk L m r/\BJ s0 s1 s2 s3 r)/\br (gN 8) Qi (run pg (j+5)) x [Wv (.ref 1),Wv (.ref (nn+1+1)),Wv (.ref (np+1+1)),Wv (.ref (nk+1+1)),a4,a5,Wv (.int m),Wv (.ref (J.length+1+1)),a8,a9] (fr::bw q::(J++[.lst (rs.map bF)]))= .ok (.nx [Wv (.ref 1),Wv (.ref (nn+1+1)),Wv (.ref (np+1+1)),Wv (.ref (nk+1+1)),a4,a5,Wv (.int m),Wv (.ref (J.length+1+1)),Wv x,u9]) (fr::bw q2::(J++[.lst (rs.map bF++[bF r])])) by
   obtain⟨r,q2,u9,hr,st⟩:=st;obtain⟨rs',q',b8,b9,i1,i2,i3⟩:=ih (rs++[r]) q2 (Wv x) u9 (by simp only[WR,WE,Xf];omega);refine⟨r::rs',q',b8,b9,by rw[WE,WE,i1],λz m=>?_,?_⟩
   . rcases WM.mp m with rfl | m
     . exact hr
     . exact i2 z m
   . rw[Xl,WH,Xc] at i3;rw[eK,st,dc,cb,i3,WV];rfl
  by_cases z0:w=0
  . subst z0;obtain⟨b,q2,b0,b1,eb⟩:=cv T (j+4) fr q1 ps.length (by omega) (by omega);obtain⟨y,hy,ey⟩:=nA b0 b1;obtain⟨e,q3,h1,h2,h3,h4⟩:=xX T (j+1) fr p0 p9 2 q2 (J++[.lst (rs.map bF)]) ep';have h4':run pg (j+5) "_law_sum" [.ref 1,.ref (np+1+1),.int 2] (fr::bw q2::(J++[.lst (rs.map bF)]))=_:=h4;have hs:jo e:=⟨h1,by omega⟩
    refine⟨.let_ y e,q3,Wv (.int 0),⟨⟨hL y hy,hs⟩,(λ_ _ h=>by cases h)⟩,?_⟩;simp? [Qi,ew,ep',Wy,eb,ey,h4',l8 hz,bF,Rw.w,Rw.ps]
  by_cases z1:w=1
  . subst z1;obtain⟨b,q2,b0,b1,eb⟩:=cv T (j+4) fr q1 ((m)+1) (by omega) (by omega);obtain⟨e,q3,h1,h2,h3,h4⟩:=xX T (j+1) fr p0 p9 2 q2 (J++[.lst (rs.map bF)]) ep';have h4':run pg (j+5) "_law_sum" [.ref 1,.ref (np+1+1),.int 2] (fr::bw q2::(J++[.lst (rs.map bF)]))=_:=h4;have hs:jo e:=⟨h1,by omega⟩
    refine⟨.leap b e,q3,Wv (.int 1),⟨⟨b0,by omega,hs⟩,(λ_ _ h=>by cases h)⟩,?_⟩;simp? [Qi,ew,eb,h4',l8 hz,bF,Rw.w,Rw.ps]
  . obtain⟨r,q2,h1,h2,h3⟩:=Iy T j fr p0 p9 hL k0 k9 hK q1 N.app ep' ek';refine⟨r,q2,Wv (.int w),⟨h1 m,h2⟩,?_⟩;simp? [Qi,ew,z0,z1,h3,l8 hz]
end
def kF:=(ja (jh (bD (ab (aq (ab (eI 0) (ab (bD (a2 (eS "get") (eS "put"))) ah))) (ab (aq (ab (eI 1) (ab (bD (a2 (eS "take") (eS "free"))) ah))) (ab (aq (ab (eI 2) (ab (bD (a2 (eS "send") (eS "fetch"))) ah))) (ab (aq (ab (eI 3) (ab (bD (a2 (eS "say") (eS "hear"))) ah))) ah)))))) kG kB)
theorem Tf c fr q (N:BE J nn s0 s1 s2 s3) a0 a2 :
  ∃(g':PH)(nk:Nat)(ks:List Str)(v4 v5:Option PV),(J++g')[nk]?=Wv (.lst (ks.map PV.str))/\0 < ks.length/\ks.length<=1000/\(∀ x∈ks,vo s0 s1 s2 s3 x) /\
   kF c [a0,Wv (.ref (nn+1+1)),a2,Wv (.ref (J.length+1+1)),Wx,Wx,Wx,Wx,Wx,Wx] (fr::bw q::(J++[.lst [.str "clock",.str "lot"]]))= .ok (.nx [a0,Wv (.ref (nn+1+1)),a2,Wv (.ref (nk+1+1)),v4,v5,Wx,Wx,Wx,Wx]) (fr::bw q::(J++g')):=by
 obtain ⟨b0,b1,b2,b3,e,e0,e1,e2,e3⟩:=N.at_;obtain ⟨o0,o1,o2,o3⟩:=N.ok
 let m:=J.length
 let es:List (PV × List Str × List Str):=[(.tup [.int 0,.ref (m+(0+1)+1+1)],["get", "put"],s0),(.tup [.int 1,.ref (m+(0+1+1)+1+1)],["take", "free"],s1),(.tup [.int 2,.ref (m+(0+1+1+1)+1+1)],["send", "fetch"],s2),(.tup [.int 3,.ref (m+(0+1+1+1+1)+1+1)],["say", "hear"],s3)]
 let Y:PH:=[.lst [.str "clock",.str "lot"],.lst [.str "get",.str "put"],.lst [.str "take",.str "free"],.lst [.str "send",.str "fetch"],.lst [.str "say",.str "hear"],.lst (es.map (·.1))]
 have old: ∀{n:Nat}{o:PO},J[n]?=Wv o->(fr::bw q::(J++Y))[n+1+1]?=Wv o:=λe=>by
  exact (aw (aC e)).trans e
 have new: ∀(i:Nat),(fr::bw q::(J++Y))[m+i+1+1]?=Y[i]?:=λi=>by
  exact aM
 have hE: ∀ x∈es,KE (fr::bw q::(J++Y)) (nn+1+1) x:=λx mx=>by
  simp only[es,WM,W4,or_false] at mx;rcases mx with rfl | rfl | rfl | rfl
  . exact⟨⟨0,_,b0+1+1,_,rfl,old e,rR,old e0,by rw[new];rfl⟩,λx m=>(o0.2 x m).2,by simp⟩
  . exact ⟨⟨1,_,b1+1+1,_,rfl,old e,yc,old e1,by rw [new];rfl⟩,λx m=>(o1.2 x m).2,by simp⟩
  . exact ⟨⟨2,_,b2+1+1,_,rfl,old e,yu,old e2,by rw [new];rfl⟩,λx m=>(o2.2 x m).2,by simp⟩
  . exact ⟨⟨3,_,b3+1+1,_,rfl,old e,Di,old e3,by rw [new];rfl⟩,λx m=>(o3.2 x m).2,by simp⟩
 obtain ⟨g1,c1,ks,v4,v5,f1,f0,f2,f3,f4,f5⟩:=Qy c (nd:=nn+1+1) (n0:=m+(0+1+1+1+1+1)+1+1) (es.map (·.1)) a0 a2 Wx Wx Wx Wx es (fr::bw q::(J++Y)) (m+1+1) ["clock", "lot"] Wx Wx hE (new 0) (by rw [new];rfl) (by simp [es])
 obtain ⟨nk,rfl⟩: ∃ nk,c1=nk+1+1:=⟨c1 - 2,by omega⟩
 refine ⟨Y++g1,nk,ks,v4,v5,?_,WQ (by simp) f2,Xb f3 (by simp [es]),λx mx=>?_,?_⟩
 . rw [Yf,Yf,XD,WV] at f1;exact f1
 . rcases f4 x mx with mx | ⟨e',m',z,mx⟩
   . simp only[WM,W4,or_false] at mx;rcases mx with h | h
     . exact .inl h
     . exact .inr (.inl h)
   . simp only[es,WM,W4,or_false] at m';rcases m' with rfl | rfl | rfl | rfl<;>simp only[WM,W4,or_false] at mx z
     . exact .inr (.inr (.inl ⟨z,mx⟩))
     . exact .inr (.inr (.inr (.inl ⟨z,mx⟩)))
     . exact .inr (.inr (.inr (.inr (.inl ⟨z,mx⟩))))
     . exact .inr (.inr (.inr (.inr (.inr ⟨z,mx⟩))))
 . simp only[es,WH,Xc,Y,m,Yf,WV] at f5;simp? [kF,f5];rfl
section
variable{pg:Tb}(T:bN pg)
include T
theorem Ju j fr {ps:List Str} (p0:0 < ps.length) (p9:ps.length<=1000) (hL: ∀ x∈ps,x∈L) q (N:BE J nn s0 s1 s2 s3) (ep:J[np]?=Wv (.lst (ps.map PV.str))) :
  ∃(rs:List Rw)(q':Int × Int × Int),rs.length<=10/\(∀ r∈rs,fk L rs.length r/\BJ s0 s1 s2 s3 r)/\run pg (j+6) "_law_rows" [.ref 1,.ref (nn+1+1),.ref (np+1+1)] (fr::bw q::J)= .ok (bJ rs) (fr::bw q'::J):=by
 obtain⟨g1,nk,ks,v4,v5,f1,f2,f3,f4,f5⟩:=Tf (run pg (j+5)) fr q N (Wv (.ref 1)) (Wv (.ref (np+1+1)));obtain⟨a,q1,a0,a1,ea⟩:=cv T (j+4) fr q 4 (by decide) (by decide);obtain⟨b,q2,b0,b1,eb⟩:=cv T (j+4) fr q1 8 (by decide) (by decide);obtain⟨d,q3,d0,d1,ed⟩:=cv T (j+4) fr q2 6 (by decide) (by decide);obtain⟨mi,m0,m9,em⟩:=Ks a0 a1 b0 b1 (c:=if decide (0 < d)=true then 1 else 0) (by split<;>simp);obtain⟨m,rfl⟩:=XX m0;have N':BE (J++(g1++[.lst [.int a,.int (3+b)]])) nn s0 s1 s2 s3:=N.app;obtain⟨rs,q4,b8,b9,h1,h2,h3⟩:=Bi T j fr p0 p9 hL f2 f3 f4 N' (by rw[aw (aC ep)];exact ep) (by rw[<- WV,aw (aC f1)];exact f1) (m:=m) (by omega) (aH 0 m) v4 v5 (aH 0 m) [] q3 Wx Wx (by simp[aH];omega);have lr:(aH 0 m).length=m:=by unfold aH;simp
 rw[lr] at h1;refine⟨rs,q4,by omega,by rw[h1];exact h2,?_⟩;rw[Xc] at h3;have tn:=XA m;unfold kF kG kB at f5;unfold Qi at h3;simp only[WR,WE,Xf,WV,Yf,XF] at h3;rw[run_eq T.vU rfl];simp? [gX,nX,↓f5,ea,eb,ed,em,tn,h3];exact dN (v:=bJ rs) (nJ rs)
end
def bz(h:Str × List Rw):PV:= .tup [.str h.1,bJ h.2]
noncomputable def oF:List Str:=["a", "ab", "putter", "b", "getx", "abc", "locked", "sayer", "c", "hands", "fetched", "abcdefgh"]
theorem CT: ∀ x∈oF,nz x=true∧aaE x=true:=by decide +kernel
def Fn(pl:List Str):=pl.length=12∧ ∀ x∈pl,nz x=true∧aaE x=true
theorem BX(h:Fn pl) lo hi: ∃ ss ,gM (pl.map PV.str) lo hi=ss.map PV.str∧B2 ss:=by
 unfold gM;refine⟨(pl.drop (HT.dq (pl.map PV.str).length 0 lo)).take (HT.dq (pl.map PV.str).length (pl.map PV.str).length hi - HT.dq (pl.map PV.str).length 0 lo),by rw[abW,abX],?_,λx m=>h.2 x (ZQ (aa0 m))⟩;have:=h.1;simp only[Xz,YJ];omega
theorem xU{xs:List Int}{v:Int}(h0:0<=v)(h1:v < xs.length): ∃ x∈xs,dZ (xs.map PV.int) v=Wv (.int x):=by
 obtain⟨n,en⟩:=XX h0;subst en;have hn:n < xs.length:=by omega
 exact⟨xs[n],YM hn,P3.eW rfl (by rw[WT,WD hn];rfl)⟩
def DD b (X:PH) (r:PV):= ∃(i:Nat)(ss:List Str),r= .ref (b+i+1+1)/\X[i]?=Wv (.lst (ss.map PV.str))/\B2 ss
theorem DD.more(h:DD b X r) Y:DD b (X++Y) r:=by
 obtain⟨i,ss,h1,h2,h3⟩:=h;exact⟨i,ss,h1,(aw (aC h2)).trans h2,h3⟩
def Ui:=(ae (ai (aj aB (bD (ab (eI 1) (ab (eI 2) (a3 (eI 1) (eI 0) (eI 2))))) (ag "_law_take" (a2 (aa 0) (eI 5)))) (gN 5)) (bS (eM aG bq (aa 3) (ab (q9 (aa 1) (cB (aj dF (eI 2) (aa 4))) (cB (aj aU (aj dF (eI 2) (aa 4)) (aa 5)))) ah))))
def Ul:=(aq (ab (aa 10) (ab (aj aB (bD (ab (eI 0) (a3 (eI 5) (eI 999) (eI 1)))) (ag "_law_take" (a2 (aa 0) (eI 4)))) ah)))
section
variable{pg:Tb}(T:bN pg)
include T
theorem zo j fr (hp:Fn pl) {J:PH} (ep:J[np]?=Wv (.lst (pl.map PV.str))) xs0 e2 e6 e7 e8 e9 :
  ∀(ak:List Int) refs X q e4 e5,refs.length+ak.length<=1000->(∀ r∈refs,DD (J.length+1) X r) ->
  ∃(refs':List PV)(X':PH)(q':Int × Int × Int)(f4 f5:Option PV),refs'.length=refs.length+ak.length/\(∀ r∈refs',DD (J.length+1) X' r) /\
   bK ⟨Wx,xs0⟩ (br (gN 4) Ui (run pg (j+1))) (ak.map PV.int) [Wv (.ref 1),Wv (.ref (np+1+1)),e2,Wv (.ref (J.length+1+1)),e4,e5,e6,e7,e8,e9] (fr::bw q::(J++ .lst refs::X))= .ok (.nx [Wv (.ref 1),Wv (.ref (np+1+1)),e2,Wv (.ref (J.length+1+1)),f4,f5,e6,e7,e8,e9]) (fr::bw q'::(J++ .lst refs'::X')):=by
 intro ak
 induction ak with
 | nil=>intro refs X q e4 e5 _ h;exact⟨refs,X,q,e4,e5,rfl,h,gJ⟩
 | cons i ak ih =>
  intro refs X q e4 e5 hl h
  rw[WE] at hl
  let W:List PV:=[.int 1,.int 2,.int 1,.int 0,.int 2]
  obtain⟨a,q1,a0,a1,ea⟩:=cv T j fr q 5 (by decide) (by decide)
  obtain⟨m,mm,em⟩:=xU (xs:=[1,2,1,0,2]) a0 (by simpa using a1)
  have em':dZ [PV.int 1,.int 2,.int 1,.int 0,.int 2] a=Wv (.int m):=em
  obtain⟨ss,ec,hs⟩:=BX hp (Wv (2*i)) (Wv (2*i+m))
  have old: ∀ Y:PH,(J++Y)[np]?=Wv (.lst (pl.map PV.str)):=λY=>(aw (aC ep)).trans ep
  have hz:refs.length < 16777216:=by omega
  obtain⟨refs',X',q',f4,f5,h1,h2,h3⟩:=ih (refs++[.ref (J.length+1+(X.length+1)+1+1)]) (X++[.lst W,.lst (ss.map PV.str)]) q1 (Wv (.int i)) (Wv (.int m)) (by simp only[WR,WE,Xf];omega) (λr mr=>by
   rcases XJ.mp mr with mr | mr
   . exact(h r mr).more _
   . rw[Xq.mp mr];exact⟨X.length+1,ss,rfl,by rw[aM];rfl,hs⟩)
  refine⟨refs',X',q',f4,f5,by rw[h1];simp only[WR,WE,Xf];omega,h2,?_⟩
  have st:br (gN 4) Ui (run pg (j+1)) (.int i) [Wv (.ref 1),Wv (.ref (np+1+1)),e2,Wv (.ref (J.length+1+1)),e4,e5,e6,e7,e8,e9] (fr::bw q::(J++ .lst refs::X))= .ok (.nx [Wv (.ref 1),Wv (.ref (np+1+1)),e2,Wv (.ref (J.length+1+1)),Wv (.int i),Wv (.int m),e6,e7,e8,e9]) (fr::bw q1::(J++ .lst (refs++[.ref (J.length+1+(X.length+1)+1+1)])::(X++[.lst W,.lst (ss.map PV.str)]))):=by
   have ar:J.length+(X.length+(0+1)+1)=J.length+1+(X.length+1):=by omega
   simp? [Ui,W,ea,em',old,ec,l8 hz,ar]
  rw[WH,eK,st,dc,cb]
  exact h3
theorem FH j fr {s0:List Str} e1 e2 e3 e4 e5 e6 e7 e8 e9 :
  ∀ xs ys(J:PH) q,J[b]?=Wv (.lst (s0.map PV.str))->ys.length+xs.length<=1000-> ∃(bs:List (Str × Int))(X:PH)(q':Int × Int × Int),bs.map (·.1)=xs/\(∀ z∈bs,0<=z.2/\z.2<=999) /\
   P3.gL ⟨Wv (b+1+1),s0.map PV.str⟩ (aO 1 (gN 10) aN Ul (run pg (j+1)) [Wv (.ref 1),e1,e2,e3,e4,e5,e6,e7,e8,e9]) (xs.map PV.str) ys (fr::bw q::J)= .ok (ys++bs.map d8) (fr::bw q'::(J++X)):=by
 have fi: ∀{J:PH}(q:Int × Int × Int),J[b]?=Wv (.lst (s0.map PV.str))->uj.kC ⟨Wv (b+1+1),s0.map PV.str⟩ (fr::bw q::J)=true:=λ{J} q h=>cR (show J[b]?=_ from h);intro xs
 induction xs with
 | nil=>intro ys J q h1 _;exact⟨[],[],q,rfl,λz m=>(by cases m),by rw[Xc,P3.gL,if_pos (fi q h1)];simp⟩
 | cons x xs ih =>
  intro ys J q h1 hl
  rw[WE] at hl
  obtain⟨a,q1,a0,a1,ea⟩:=cv T j fr q 4 (by decide) (by decide)
  obtain⟨m,mm,em⟩:=xU (xs:=[0,5,999,1]) a0 (by simpa using a1)
  have em':dZ [PV.int 0,.int 5,.int 999,.int 1] a=Wv (.int m):=em
  have hm:0<=m/\m<=999:=by
   simp only[WM,W4,or_false] at mm;omega
  obtain⟨bs,X,q',i1,i2,i3⟩:=ih (ys++[d8 (x,m)]) (J++[.lst [.int 0,.int 5,.int 999,.int 1]]) q1 ((aw (aC h1)).trans h1) (by simp only[WR,WE,Xf];omega)
  refine⟨(x,m)::bs,.lst [.int 0,.int 5,.int 999,.int 1]::X,q',by rw[WH,i1],λz mz=>?_,?_⟩
  . rcases WM.mp mz with rfl | mz
    . exact hm
    . exact i2 z mz
  have hz:ys.length < WJ:=WQ (show ys.length < 1001 by omega) (by decide)
  have st:aO 1 (gN 10) aN Ul (run pg (j+1)) [Wv (.ref 1),e1,e2,e3,e4,e5,e6,e7,e8,e9] (.str x) (fr::bw q::J)= .ok (Wv (d8 (x,m))) (fr::bw q1::(J++[.lst [.int 0,.int 5,.int 999,.int 1]])):=by
   simp? [Ul,ea,em',d8]
  rw[WH,P3.gL,if_pos ⟨fi q h1,hz⟩,st,dm]
  simpa using i3
end
def kH(s0 s1 s2 s3:List Str)(h:Str × List Rw):=h.2.length<=10/\ ∃ L ,L.length<=6/\(∀ x∈L,xH x=true)/\ ∀ r∈h.2,fk L h.2.length r/\BJ s0 s1 s2 s3 r
def Uc:=(vt (aF (aj ke (eX 3 0) (bD ah))) (aj aB (eX 3 0) (eI 0)) (eS "q"))
def TR:=(ae (ai (q9 (bD (ab (eS "p") (ab Uc (ab (eS "pp") (ab (aj aB (aa 1) (aj aU (eI 8) (aa 8))) ah))))) dS (cB (aj aU (eI 1) (ag "_law_take" (a2 (aa 0) (eI 4)))))) (gN 9)) (bS (eM aG bq (aa 7) (ab (aq (ab (aj aB (aa 1) (aj aU (eI 8) (aa 8))) (ab (ag "_law_rows" (a3 (aa 0) (aa 3) (aa 9))) ah))) ah))))
theorem BL h:(bz h).flat=true:=by simp[bz,PV.flat,PV.bo,bJ,nJ]
section
variable{pg:Tb}(T:bN pg)
include T
omit T in
theorem zG{nn:Nat}{s0 s1 s2 s3:List Str}{W:PH}(N:BE W nn s0 s1 s2 s3)(c:CF)(A B:PO)(a0 a1 a2 a4 a5 a6 a7 a8 a9:Option PV): ∃ x:Str,xH x=true/\Uc c [a0,a1,a2,Wv (.ref (nn+1+1)),a4,a5,a6,a7,a8,a9] (A::B::W)= .ok (.str x) (A::B::(W++[.lst []])):=by
 obtain⟨b0,b1,b2,b3,e,e0,_⟩:=N.at_;have o0:=N.ok.1;have i0: ∀ X:PH,aB (.ref (nn+1+1)) (.int 0) (A::B::(W++X))= .ok (.ref (b0+1+1)) (A::B::(W++X)):=λX=>by
  have z:(A::B::(W++X))[nn+1+1]?=Wv (.lst [.ref (b0+1+1),.ref (b1+1+1),.ref (b2+1+1),.ref (b3+1+1)]):=(aw (aC e)).trans e;rw[xl,z,yK,rR];rfl
 have i0':=i0 [];rw[Xr] at i0';have z0:(A::B::(W++[.lst []]))[b0+1+1]?=Wv (.lst (s0.map PV.str)):=(aw (aC e0)).trans e0;have zn:(A::B::(W++[PO.lst []]))[W.length+1+1]?=Wv (.lst []):=by rw[XD,XD];exact aR
 have ne:=ne_nil (h:=A::B::(W++[.lst []])) (n:=b0+1+1) (m:=W.length+1+1) (ss:=s0) z0 zn (λx m=>(o0.2 x m).2);cases s0 with
 | nil =>
  refine⟨"q",by decide +kernel,?_⟩
  simp? [Uc,i0',ne]
 | cons x r =>
  refine⟨x,tw (o0.2 x WW).1,?_⟩
  have i1:aB (.ref (b0+1+1)) (.int 0) (A::B::(W++[.lst []]))= .ok (.str x) (A::B::(W++[.lst []])):=by
   rw[xl,z0,yK,WH,rR];rfl
  have i2:=i0 [.lst []]
  simp? [Uc,i0',ne,i2,i1]
theorem yo j fr (hp:Fn pl) (ep:J[np]?=Wv (.lst (pl.map PV.str))) (N:BE J nn s0 s1 s2 s3) xs0 e2 e4 e5 e6 :
  ∀(ak:List Nat)(hs:List (Str × List Rw))(X:PH) q e8 e9,(∀ i∈ak,i < 4)->hs.length+ak.length<=1000->(∀ h∈hs,kH s0 s1 s2 s3 h) ->
  ∃(hs':List (Str × List Rw))(X':PH)(q':Int × Int × Int)(f8 f9:Option PV),hs'.length=hs.length+ak.length/\(∀ h∈hs',kH s0 s1 s2 s3 h) /\
   bK ⟨Wx,xs0⟩ (br (gN 8) TR (run pg (j+6))) (ak.map λi:Nat=>PV.int (0+(i))) [Wv (.ref 1),Wv (.ref (np+1+1)),e2,Wv (.ref (nn+1+1)),e4,e5,e6,Wv (.ref (J.length+1+1)),e8,e9] (fr::bw q::(J++ .lst (hs.map bz)::X))= .ok (.nx [Wv (.ref 1),Wv (.ref (np+1+1)),e2,Wv (.ref (nn+1+1)),e4,e5,e6,Wv (.ref (J.length+1+1)),f8,f9]) (fr::bw q'::(J++ .lst (hs'.map bz)::X')):=by
 intro ak
 induction ak with
 | nil=>intro hs X q e8 e9 _ _ h;exact⟨hs,X,q,e8,e9,rfl,h,gJ⟩
 | cons i ak ih =>
  intro hs X q e8 e9 hi hl h
  rw[WE] at hl
  have i4:=hi i WW
  have iz:(0:Int)+(i:Int)=(i:Int):=abd _
  have pl12:=hp.1
  obtain ⟨y,hy,ey⟩:=nA (ss:=pl) (v:=8+(i)) (by omega) (by omega)
  obtain ⟨x,hx,ex⟩:=zG (N.app (g:= .lst (hs.map bz)::X)) (run pg (j+6)) fr (bw q) (Wv (.ref 1)) (Wv (.ref (np+1+1))) e2 e4 e5 e6 (Wv (.ref (J.length+1+1))) (Wv (.int i)) e9
  obtain ⟨w,q1,w0,w1,ew⟩:=cv T (j+5) fr q 4 (by decide) (by decide)
  let F:List Str:=["p",x, "pp",y]
  let ps:=F.take (1+w).toNat
  have hF: ∀ z∈F,xH z=true:=λz m=>by
   simp only [F,WM,W4,or_false] at m;rcases m with rfl | rfl | rfl | rfl
   . decide +kernel
   . exact hx
   . decide +kernel
   . exact tw (hp.2 _ hy).1
  have cu:gM [PV.str "p",.str x,.str "pp",.str y] Wx (Wv (1+w))=ps.map PV.str:=by
   rw[P3.o7 (by omega)];rw[abW];rfl
  have pl0:0 < ps.length:=by simp only[ps,F,Xz,WE,Xf];omega
  have pl9:ps.length<=4:=by simp only[ps,F,Xz,WE,Xf];omega
  let Y:PH:=[.lst [],.lst [.str "p",.str x,.str "pp",.str y],.lst (ps.map PV.str)]
  let W:=J++ .lst (hs.map bz)::(X++Y)
  have oldJ: ∀ Z:PH,(J++Z)[np]?=Wv (.lst (pl.map PV.str)):=λZ=>(aw (aC ep)).trans ep
  have epW:W[J.length+(X.length+(0+1+1)+1)]?=Wv (.lst (ps.map PV.str)):=by
   rw[aM,XD,aM];rfl
  obtain⟨rs,q2,r1,r2,r3⟩:=Ju T j fr (L:=ps) (ps:=ps) pl0 (by omega) (λz m=>m) q1 (J:=W) (N.app (g:= .lst (hs.map bz)::(X++Y))) epW
  have ho:kH s0 s1 s2 s3 (y,rs):=⟨r1,ps,by omega,λz m=>hF z (aa0 m),r2⟩
  obtain⟨hs',X',q',f8,f9,h1,h2,h3⟩:=ih (hs++[(y,rs)]) (X++Y) q2 (Wv (.int i)) (Wv (.ref (J.length+(X.length+(0+1+1)+1)+1+1))) (λz m=>hi z (WY _ m)) (by simp only[WR,WE,Xf];omega) (λz m=>by
   rcases XJ.mp m with m | m
   . exact h z m
   . rw[Xq.mp m];exact ho)
  refine⟨hs',X',q',f8,f9,by rw[h1];simp only[WR,WE,Xf];omega,h2,?_⟩
  have hz:(hs.map bz).length < 16777216:=by rw[Wy];omega
  have st:br (gN 8) TR (run pg (j+6)) (.int i) [Wv (.ref 1),Wv (.ref (np+1+1)),e2,Wv (.ref (nn+1+1)),e4,e5,e6,Wv (.ref (J.length+1+1)),e8,e9] (fr::bw q::(J++ .lst (hs.map bz)::X))= .ok (.nx [Wv (.ref 1),Wv (.ref (np+1+1)),e2,Wv (.ref (nn+1+1)),e4,e5,e6,Wv (.ref (J.length+1+1)),Wv (.int i),Wv (.ref (J.length+(X.length+(0+1+1)+1)+1+1))]) (fr::bw q2::(J++ .lst (hs.map bz++[bz (y,rs)])::(X++Y))):=by
   simp only[W,Y] at r3;simp? [TR,Y,ex,oldJ,ey,ew,cu,r3,l8 hz,bz]
  rw[WH,eK,iz,st,dc,cb]
  rw[Xl,WH,Xc] at h3
  exact h3
end
structure Ux(bs:List (Str × Int))(s1 s2 s3:List Str)(hs:List (Str × List Rw))(p:PV):Prop where
 at_:p= .tup [.tup (bs.map d8),.tup (s1.map PV.str),.tup (s2.map PV.str),.tup (s3.map PV.str),.tup (hs.map bz)]
 bx:bs.length<=20/\ ∀ z∈bs,nz z.1=true/\0<=z.2/\z.2<=999
 nm:B2 s1/\B2 s2/\B2 s3
 many:1<=hs.length/\hs.length<=4
 hd: ∀ h∈hs,kH (bs.map (·.1)) s1 s2 s3 h
theorem tH: ∀ ss:List Str,PV.bo (ss.map PV.str)=true
 | []=>rfl
 | _::r=>by rw[WH,PV.bo,tH r];rfl
theorem qH: ∀ hs:List (Str × List Rw),PV.bo (hs.map bz)=true
 | []=>rfl
 | h::r=>by rw[WH,PV.bo,BL,qH r];rfl
def yY:=(ae (ai (eB bf (ab (je 1 (jh (eX 3 0)) (gN 10) aN Ul) ah)) (gN 6)) (ae (ai (bD ah) (gN 7)) (ae (ja (cO (ab (aj aB (bD (ab (eI 2) (ab (eI 2) (ab (eI 3) (a3 (eI 4) (eI 1) (eI 2)))))) (ag "_law_take" (a2 (aa 0) (eI 6)))) ah)) (gN 8) TR) (ay (aq (ab (aa 6) (ab (eB bf (a1 (eX 3 1))) (ab (eB bf (a1 (eX 3 2))) (ab (eB bf (a1 (eX 3 3))) (ab (eB bf (a1 (aa 7))) ah))))))))))
section
variable{pg:Tb}(T:bN pg)
include T
theorem Hb j fr (hp:Fn pl) (ep:J[np]?=Wv (.lst (pl.map PV.str))) (N:BE J nn s0 s1 s2 s3) q e2 e4 e5 :
  ∃(bs:List (Str × Int))(hs:List (Str × List Rw))(p:PV)(q':Int × Int × Int)(X:PH),Ux bs s1 s2 s3 hs p/\yY (run pg (j+6)) [Wv (.ref 1),Wv (.ref (np+1+1)),e2,Wv (.ref (nn+1+1)),e4,e5,Wx,Wx,Wx,Wx] (fr::bw q::J)= .ok (.rt p) (fr::bw q'::(J++X)):=by
 obtain⟨b0,b1,b2,b3,e,x0,x1,x2,x3⟩:=N.at_;obtain⟨o0,o1,o2,o3⟩:=N.ok;obtain⟨bs,X1,q1,h1,h2,h3⟩:=FH T (j+5) fr (b:=b0) (s0:=s0) (Wv (.ref (np+1+1))) e2 (Wv (.ref (nn+1+1))) e4 e5 Wx Wx Wx Wx s0 [] J q x0 (by have:=o0.1;simp;omega)
 let J2:=J++(X1++[.lst (bs.map d8)])
 obtain⟨a,q2,a0,a1,ea⟩:=cv T (j+5) fr q1 6 (by decide) (by decide);obtain⟨m,mm,em⟩:=xU (xs:=[2,2,3,4,1,2]) a0 (by simpa using a1);have em':dZ [PV.int 2,.int 2,.int 3,.int 4,.int 1,.int 2] a=Wv (.int m):=em;have hm:1<=m/\m<=4:=by
  simp only[WM,W4,or_false] at mm;omega
 have old: ∀{n:Nat}{o:PO}(Y:PH),J[n]?=Wv o->(J++Y)[n]?=Wv o:=λY e=>(aw (aC e)).trans e;obtain⟨hs,X2,q3,f8,f9,i1,i2,i3⟩:=yo T j fr hp (J:=J2) (old _ ep) N.app (aH 0 m.toNat) e2 e4 e5 (Wv (.tup (bs.map d8))) (Xj m.toNat) [] [.lst [.int 2,.int 2,.int 3,.int 4,.int 1,.int 2]] q2 Wx Wx (λi z=>by have:=YR.mp z;omega) (by simp;omega) (λh z=>by cases z);rw[show(Xj m.toNat).map (λi:Nat=>PV.int (0+(i)))=aH 0 m.toNat from rfl] at i3;rw[aaC,Xf,Nat.zero_add] at i1;refine⟨bs,hs,_,q3,X1++ .lst (bs.map d8):: .lst (hs.map bz)::X2,⟨rfl,⟨?_,?_⟩,⟨o1,o2,o3⟩,by omega,by rw[h1];exact i2⟩,?_⟩
 . have:=congrArg aed h1;rw[Wy] at this;rw[this];exact o0.1
 . intro z mz;have:=h2 z mz;exact⟨(o0.2 z.1 (by rw[<- h1];exact Xk.mpr ⟨z,mz,rfl⟩)).1,this⟩
 . have w: ∀(Y:PH)(i:Int)(b:Nat),dZ [PV.ref (b0+1+1),.ref (b1+1+1),.ref (b2+1+1),.ref (b3+1+1)] i=Wv (.ref (b+1+1))-> ∀ A B:PO,aB (.ref (nn+1+1)) (.int i) (A::B::(J++Y))= .ok (.ref (b+1+1)) (A::B::(J++Y)):=λY i b z A B=>by
    have z2:(A::B::(J++Y))[nn+1+1]?=_:=old Y e;rw[xl,z2,yK,z];rfl
   have tu: ∀(Y:PH)(b:Nat)(ss:List Str),J[b]?=Wv (.lst (ss.map PV.str))-> ∀ A B:PO,bf [.ref (b+1+1)] (A::B::(J++Y))= .ok (.tup (ss.map PV.str)) (A::B::(J++Y)):=λY b ss z A B=>by
    have z2:(A::B::(J++Y))[b+1+1]?=_:=old Y z;rw[oS,z2,lg]
   have w0:=w [] 0 b0 rR;rw[Xr] at w0;have l0: ∀ A B:PO,(A::B::J)[b0+1+1]?=Wv (.lst (s0.map PV.str)):=λA B=>x0;simp only[J2,Xc,WV,Yf,XF,WR,WE,Xf] at i3;simp? [yY,w0,l0,x0,h3,ea,em',i3,w _ 1 b1 yc,w _ 2 b2 yu,w _ 3 b3 Di,tu _ b1 s1 x1,tu _ b2 s2 x2,tu _ b3 s3 x3]
end
section
variable{pg:Tb}(T:bN pg)
include T
theorem qO j fr q (g:PH) :
  ∃(bs:List (Str × Int))(s1 s2 s3:List Str)(hs:List (Str × List Rw))(p:PV)(q':Int × Int × Int),Ux bs s1 s2 s3 hs p/\run pg (j+7) "_law_program" [.ref 1] (fr::bw q::g)= .ok p (fr::bw q'::g):=by
 obtain⟨t,q1,t0,t1,et⟩:=cv T (j+5) fr q 12 (by decide) (by decide);have c1:gM (oF.map PV.str) (Wv t) Wx=(oF.drop t.toNat).map PV.str:=by rw[P3.ig t0,abX]
 have c2:gM (oF.map PV.str) Wx (Wv t)=(oF.take t.toNat).map PV.str:=by rw[P3.o7 t0,abW]
 let pl:=oF.drop t.toNat++oF.take t.toNat
 have hp:Fn pl:=by
  refine⟨?_,λx m=>?_⟩
  . have:oF.length=12:=rfl;simp only[pl,WR,YJ,Xz,this];omega
  . rcases XJ.mp m with m | m
    . exact CT x (ZQ m)
    . exact CT x (aa0 m)
 let J1:=g++[.lst (oF.map PV.str),.lst ((oF.drop t.toNat).map PV.str),.lst ((oF.take t.toNat).map PV.str),.lst (pl.map PV.str)]
 have ep:J1[g.length+(0+1+1+1)]?=Wv (.lst (pl.map PV.str)):=by show(g++_)[_]?=_;rw[aM];rfl
 have lJ:J1.length=g.length+(0+1+1+1+1):=by simp[J1]
 obtain⟨refs,X,q2,f4,f5,h1,h2,h3⟩:=zo T (j+5) fr hp ep (aH 0 4) (Wv (.int t)) Wx Wx Wx Wx [0,1,2,3] [] [] q1 Wx Wx (by decide) (λr m=>by cases m);obtain⟨r0,r1,r2,r3,rfl⟩: ∃ r0 r1 r2 r3,refs=[r0,r1,r2,r3]:=by
  match refs,h1 with
  | [a,b,c,d],_=>exact⟨a,b,c,d,rfl⟩
 have at_: ∀(Y:PO)(i:Nat),(J1++Y::X)[J1.length+1+i]?=X[i]?:=λY i=>by rw[Nat.add_assoc,aM,adJ 1 i,XD]
 obtain⟨i0,s0,rfl,z0,n0⟩:=h2 r0 (.head _);obtain⟨i1,s1,rfl,z1,n1⟩:=h2 r1 (.tail _ (.head _));obtain⟨i2,s2,rfl,z2,n2⟩:=h2 r2 (.tail _ (.tail _ (.head _)));obtain⟨i3,s3,rfl,z3,n3⟩:=h2 r3 (.tail _ (.tail _ (.tail _ (.head _))));have N:BE (J1++ .lst [.ref (J1.length+1+i0+1+1),.ref (J1.length+1+i1+1+1),.ref (J1.length+1+i2+1+1),.ref (J1.length+1+i3+1+1)]::X) J1.length s0 s1 s2 s3 :=
  ⟨⟨_,_,_,_,aR,(at_ _ i0).trans z0,(at_ _ i1).trans z1,(at_ _ i2).trans z2,(at_ _ i3).trans z3⟩,n0,n1,n2,n3⟩
 obtain⟨bs,hs,p,q3,Z,pk,tl⟩:=Hb T j fr hp ((aw (aC ep)).trans ep) N q2 (Wv (.int t)) f4 f5;refine⟨bs,s1,s2,s3,hs,p,q3,pk,?_⟩;have pf:p.flat=true:=by
  rw[pk.at_];simp only[PV.flat,PV.bo,jq,tH,qH,aac]
 have ad:aU (.ref (g.length+(0+1)+1+1)) (.ref (g.length+(0+1+1)+1+1)) (fr::bw q1::(g++[.lst (oF.map PV.str),.lst ((oF.drop t.toNat).map PV.str),.lst ((oF.take t.toNat).map PV.str)]))= .ok (.ref (g.length+(0+1+1+1)+1+1)) (fr::bw q1::J1):=by
  have e1:(fr::bw q1::(g++[PO.lst (oF.map PV.str),.lst ((oF.drop t.toNat).map PV.str),.lst ((oF.take t.toNat).map PV.str)]))[g.length+(0+1)+1+1]?=Wv (.lst ((oF.drop t.toNat).map PV.str)):=by rw[XD,XD,aM];rfl
  have e2:(fr::bw q1::(g++[PO.lst (oF.map PV.str),.lst ((oF.drop t.toNat).map PV.str),.lst ((oF.take t.toNat).map PV.str)]))[g.length+(0+1+1)+1+1]?=Wv (.lst ((oF.take t.toNat).map PV.str)):=by rw[XD,XD,aM];rfl
  refine(j7 e1 e2 (by simp only[Wy,YJ,Xz];have:oF.length=12:=rfl;omega)).trans ?_;simp[J1,pl]
 have A:gK (run pg (j+6)) [Wv (.ref 1),Wx,Wx,Wx,Wx,Wx,Wx,Wx,Wx,Wx] (fr::bw q::g)= .ok (.rt p) (fr::bw q3::(J1++ .lst [.ref (J1.length+1+i0+1+1),.ref (J1.length+1+i1+1+1),.ref (J1.length+1+i2+1+1),.ref (J1.length+1+i3+1+1)]::X++Z)):=by
  show ae _ (ae _ (ae _ (ae _ (ae _ yY)))) _ _ _=_;refine(ba (e1:=[Wv (.ref 1),Wv (.ref (g.length+1+1)),Wx,Wx,Wx,Wx,Wx,Wx,Wx,Wx]) (h1:=fr::bw q::(g++[.lst (oF.map PV.str)])) ?_).trans ?_
  . simp? [Xc];rfl
  refine(ba (e1:=[Wv (.ref 1),Wv (.ref (g.length+1+1)),Wv (.int t),Wx,Wx,Wx,Wx,Wx,Wx,Wx]) (h1:=fr::bw q1::(g++[.lst (oF.map PV.str)])) ?_).trans ?_
  . simp? [et]
  refine(ba (e1:=[Wv (.ref 1),Wv (.ref (g.length+(0+1+1+1)+1+1)),Wv (.int t),Wx,Wx,Wx,Wx,Wx,Wx,Wx]) (h1:=fr::bw q1::J1) ?_).trans ?_
  . simp? [c1,c2,ad]
  refine(ba (e1:=[Wv (.ref 1),Wv (.ref (g.length+(0+1+1+1)+1+1)),Wv (.int t),Wv (.ref (J1.length+1+1)),Wx,Wx,Wx,Wx,Wx,Wx]) (h1:=fr::bw q1::(J1++[.lst []])) ?_).trans ?_
  . simp? [Xc]
  refine(ba (h1:=fr::bw q2::(J1++ .lst [.ref (J1.length+1+i0+1+1),.ref (J1.length+1+i1+1+1),.ref (J1.length+1+i2+1+1),.ref (J1.length+1+i3+1+1)]::X)) ?_).trans tl;have r4:aH 0 (4:Int).toNat=aH 0 4:=rfl;unfold Ui at h3;simp? [↓uZ,↓yn,uX,dc,oR,r4];exact h3
 rw[run_eq T.qm rfl];show fin _ (gK (run pg (j+6)) [Wv (.ref 1),Wx,Wx,Wx,Wx,Wx,Wx,Wx,Wx,Wx] (fr::bw q::g))=_;rw[A,jG];show P3.settle _ _ (fr::bw q3::(g++_++_++_))=_;rw[WV,WV];exact dN pf
end
noncomputable def rH(a b:Int):List (Key × PV):=[(.inr "add",.int (a+b)),(.inr "sub",.int (a - b)),(.inr "mul",.int (a*b))]
theorem CA a b:cm [] (rH a b)=rH a b:=by simp [rH,cm,iA,cQ]
theorem vv a h:jw (.str a) (.tup [.str "less",.str "same"]) h= .ok (.bl (decide (a∈(["less", "same"]:List Str)))) h:=yr (ss:=["less", "same"])
theorem Pb(o:Bo) a b:(o= .less∨o= .same)∨(¬ o.w∈(["less", "same"]:List Str)∧ ∃ n ,cx (rH a b) (.inr o.w)=Wv (.int n)∧n % 1000=o.f a b):=by
 cases o with
 | less=>exact .inl (.inl rfl)
 | same=>exact .inl (.inr rfl)
 | add=>exact .inr ⟨by decide +kernel,_,by simp[rH,cx,Bo.w],rfl⟩
 | sub=>exact .inr ⟨by decide +kernel,_,by simp[rH,cx,Bo.w,cQ],rfl⟩
 | mul=>exact .inr ⟨by decide +kernel,_,by simp[rH,cx,Bo.w,cQ],rfl⟩
section
variable{pg:Tb}(T:bN pg)
include T
theorem qR(hf: ∀ x,0<=fP D x/\fP D x<=999): ∀ e k h,h[n]?=Wv (.dct (fh D))->e.ok->e.dp<=k->run pg (k+1) "_law_worth" [iF e,.ref n] h= .ok (.int (e.val (fP D))) h
 | .num i,k,h,hn,_,_=>by
  rw[run_eq T.fO rfl];simp? [aY,bH,iF,Sm.val]
 | .of x,k,h,hn,_,_=>by
  have g:=ze D x;rw[run_eq T.fO rfl];simp? [aY,bH,iF,Sm.val,hn,g]
 | .un a,0,h,hn,_,hd=>by unfold Sm.dp at hd;omega
 | .un a,k+1,h,hn,ok,hd=>by
  have i1:=qR hf a k h hn ok (by unfold Sm.dp at hd;omega);have sm:iF (.un a)= .tup [.str "not",iF a]:=rfl;rw[run_eq T.fO rfl,sm,Sm.val];by_cases z:a.val (fP D)=0
  . simp? [aY,bH,i1,z]
  . simp? [aY,bH,i1,z]
 | .bin o a b,0,h,hn,_,hd=>by unfold Sm.dp at hd;omega
 | .bin o a b,k+1,h,hn,ok,hd=>by
  have i1:=qR hf a k h hn ok.1 (by unfold Sm.dp at hd;omega);have i2:=qR hf b k h hn ok.2 (by unfold Sm.dp at hd;omega);have sm:iF (.bin o a b)= .tup [.str o.w,iF a,iF b]:=rfl;have n1: ¬ o.w= "num" /\ ¬ o.w= "of" /\ ¬ o.w= "not" :=by cases o<;>(simp only[Bo.w];decide +kernel)
  have va:=Sm.ny hf a ok.1;rw[run_eq T.fO rfl,sm,Sm.val];generalize a.val (fP D)=x at i1 va;generalize b.val (fP D)=y at i2;rcases Pb o x y with (rfl | rfl) | ⟨z,n,z1,z2⟩
  . have m1:(WU "less")∈(["less", "same"]:List Str):=by decide +kernel
    by_cases c:x < y
    . simp? [aY,bH,Bo.w,Bo.f,i1,i2,vv,m1,c]
    . simp? [aY,bH,Bo.w,Bo.f,i1,i2,vv,m1,c]
  . have m1:(WU "same")∈(["less", "same"]:List Str):=by decide +kernel
    by_cases c:x=y
    . simp? [aY,bH,Bo.w,Bo.f,i1,i2,vv,m1,c]
    . simp? [aY,bH,Bo.w,Bo.f,i1,i2,vv,m1,c]
  . have dk:Qc h.length [((.inr "add"),PV.int (x+y)),(.inr "sub",.int (x - y)),(.inr "mul",.int (x*y))] (h++[.dct []])= .ok (.ref h.length) (h++[.dct (rH x y)]):=by
     have:=AF (h:=h) (kvs:=rH x y) (by simp[rH]);rw[CA] at this;exact this
    rw[<- z2];simp? [aY,bH,n1.1,n1.2.1,n1.2.2,i1,i2,vv,z,lO,pS,lq,pT,ph,pA,dk,z1];exact bU rfl
omit T in
theorem NH{h:PH}{n:Nat}{ss:List Str}(e:h[n]?=Wv (.lst (ss.map PV.str)))(a:Str):jw (.str a) (.ref n) h= .ok (.bl (decide (a∈ss))) h:=by
 have:isIn (.str a) (.ref n) h=Wv (decide (a∈ss)):=by
  unfold isIn;simp only[itemsOf,cH,e,all_strs,gF,aac,if_true,jM]
 unfold jw;rw [this]
theorem K9 k h r {hl:List Str} (e:h[n]?=Wv (.lst (hl.map PV.str))) (hm: ∀ y,y∈hl↔y∈held):run pg (k+1) "_law_is_own" [bF r,.ref n] h= .ok (.bl (own held r)) h:=by
 have r0:=λg=>rw_0 r g;have il: ∀ a:Str,jw (.str a) (.tup [.str "let",.str "leap"]) h= .ok (.bl (decide (a∈(["let", "leap"]:List Str)))) h:=λa=>yr (ss:=["let", "leap"]);have ie:=NH e;have eb: ∀ b c:Bool,kb (.bl b) (.bl c) h= .ok (.bl (b == c)) h:=λb c=>by cases b<;>cases c<;>rfl
 rw [run_eq T.su rfl];cases r with
 | take l=>simp? [cD,eP,bF,Rw.w,Rw.ps,ie,eb,own,hm];simp
 | free l=>simp? [cD,eP,bF,Rw.w,Rw.ps,ie,eb,own,hm];simp
 | _=>simp? [cD,eP,r0,Rw.w,il,own,WM,W4,or_false,or_true,true_or]
end
theorem set_same{h:PH}(e:h[n]?=Wv o):h.set n o=h:=by
 obtain⟨l,e⟩:=WA.mp e;rw[<- e];exact acI l
theorem kz{h:PH}(l:n < h.length):(h.set n o)[n]?=Wv o:=by rw[Xo l]
theorem aV{h:PH}(ne:n≠m):(h.set n o)[m]?=h[m]?:=XS ne
def rT:=(lT (aF (aj BM (aa 1) (eB bV (a1 (aa 0))))) (aF (ag "_law_is_own" (ab (aj aB (aa 0) (aa 1)) (a1 (aa 3))))))
def rA:=(ae (bW (mQ (eX 5 0) (eS "let")) (fQ dM (aa 2) (eX 5 1) (ag "_law_worth" (a2 (eX 5 2) (aa 2)))) cE) (bW (lT (mQ (eX 5 0) (eS "leap")) (aF (aj ke (ag "_law_worth" (a2 (eX 5 2) (aa 2))) (eI 0)))) (ai (eX 5 1) (gN 1)) cE))
def rB:=(ae (bW (mQ (aa 4) (eI 200)) (ay (eB bV (a1 (aa 0)))) cE) (ae (ai (aj aB (aa 0) (aa 1)) (gN 5)) (ae (ai (aj aU (aa 4) (eI 1)) (gN 4)) (ae (ai (aj aU (aa 1) (eI 1)) (gN 1)) rA))))
theorem oU(hL:L.length<=20)(h:sE L D):(fh D).length < 16777216:=by unfold fh;rw[Wy];have:=h.len;omega
section
variable{pg:Tb}(T:bN pg)
include T
theorem Ti k (hL:L.length<=20) (ed:h[d]?=Wv (.dct (fh D))) (e:rs[t.row]?=Wv r) (ho:own t.held r=true) (hr:fk L rs.length r) (hD:sE L D) (hf: ∀ x,fP D x=fP t.ps x) (nd:(t.ps.map (·.1)).Nodup) u3 u4 :
  ∃ D' ,sE L D'/\(∀ x,fP D' x=fP (behind t r).ps x)/\rA (run pg (k+9)) [Wv (bJ rs),Wv (.int ((t.row)+1)),Wv (.ref d),u3,u4,Wv (bF r)] h= .ok (.nx [Wv (bJ rs),Wv (.int (behind t r).row),Wv (.ref d),u3,u4,Wv (bF r)]) (h.set d (.dct (fh D'))):=by
 have ff:=funext hf;have w: ∀ e0:Sm,jo e0->run pg (k+9) "_law_worth" [iF e0,.ref d] h= .ok (.int (e0.val (fP t.ps))) h:=λe0 he=>by
  rw[<- ff];exact qR T hD.vF e0 (k+8) _ ed he.1 (by have:=he.2;omega)
 have hl9:=oU hL hD;have up:(t.row)+1=((t.row+1:Nat):Int):=by omega
 cases r with
 | let_ x e0 =>
  have hv:=Sm.ny (f:=fP t.ps) (by rw[<- ff];exact hD.vF) e0 hr.2.1
  refine⟨putD D x (e0.val (fP t.ps)),o6 hD hr.1 hv.1 hv.2,λy=>by rw[oV,behind,uK nd,hf],?_⟩
  simp? [rA,bF,Rw.w,Rw.ps,w e0 hr.2,ed,k4 hl9,jV,behind,up]
 | leap j e0 =>
  refine⟨D,hD,λy=>?_,?_⟩
  . rw[hf];show _=fP (if e0.val (fP t.ps)=0 then(⟨t.row+1,t.ps,t.held⟩:eL) else⟨j.toNat,t.ps,t.held⟩).ps y;split<;>rfl
  . rw[set_same ed];by_cases z:e0.val (fP t.ps)=0
    . simp? [rA,bF,Rw.w,Rw.ps,w e0 hr.2.2,behind,z,up]
    . have jj:((j.toNat))=j:=by have:=hr.1;omega
      simp? [rA,bF,Rw.w,Rw.ps,w e0 hr.2.2,behind,z,jj]
 | take l=>exact⟨D,hD,hf,by rw[set_same ed];simp? [rA,bF,Rw.w,Rw.ps,behind,up]⟩
 | free l=>exact⟨D,hD,hf,by rw[set_same ed];simp? [rA,bF,Rw.w,Rw.ps,behind,up]⟩
 | _=>cases ho
theorem Bs k (dl:d≠l) {hl:List Str} (hL:L.length<=20) (hr: ∀ r∈rs,fk L rs.length r): ∀(m i:Nat) t D h u5 f,i+m=200->m+2<=f->h[d]?=Wv (.dct (fh D))->h[l]?=Wv (.lst (hl.map PV.str))->(∀ y,y∈hl↔y∈t.held)->dw L rs t->sE L D->(∀ x,fP D x=fP t.ps x) ->
  ∃(D':Pk)(fl:Fl),sE L D'/\(∀ x,fP D' x=fP (bu rs m t).ps x)/\(fl= .rt (.int (bu rs m t).row)\/ ∃ u2 u3 u4 u5,fl= .nx [Wv (bJ rs),Wv (.int (bu rs m t).row),u2,u3,u4,u5]) /\
  cF (rT (run pg (k+9))) (rB (run pg (k+9))) f [Wv (bJ rs),Wv (.int t.row),Wv (.ref d),Wv (.ref l),Wv (.int i),u5] h= .ok fl (h.set d (.dct (fh D'))):=by
 have ln: ∀ h,bV [bJ rs] h= .ok (.int rs.length) h:=λh=>by unfold bJ;rw[len_T,Wy]
 have ix: ∀{t:eL}{r:Rw}(h:PH),rs[t.row]?=Wv r->aB (bJ rs) (.int t.row) h= .ok (bF r) h:=λh e=>kD (iu e);have stop: ∀(i:Nat)(t:eL)(h:PH)(u5:Option PV)(f:Nat),h[l]?=Wv (.lst (hl.map PV.str))->(∀ y,y∈hl↔y∈t.held)->bC rs t=true->cF (rT (run pg (k+9))) (rB (run pg (k+9))) (f+1) [Wv (bJ rs),Wv (.int t.row),Wv (.ref d),Wv (.ref l),Wv (.int i),u5] h= .ok (.nx [Wv (bJ rs),Wv (.int t.row),Wv (.ref d),Wv (.ref l),Wv (.int i),u5]) h:=λi t h u5 f el hm r1=>by
  refine JV ?_;cases e:rs[t.row]? with
  | none =>
   have z: ¬ (t.row) < (rs.length:Int):=by have:=X3.mp e;omega
   simp? [rT,ln,z]
  | some r =>
   have lt:=(WA.mp e).1
   have z:(t.row) < (rs.length):=by omega
   have ow:=K9 T (k+8) h r el hm
   have on:own t.held r=false:=by unfold bC at r1;rw[e] at r1;simpa using r1
   rw[on] at ow
   simp? [rT,ln,z,ix h e,ow]
 have go: ∀(i:Nat)(t:eL)(h:PH)(u5:Option PV)(r:Rw),h[l]?=Wv (.lst (hl.map PV.str))->(∀ y,y∈hl↔y∈t.held)->rs[t.row]?=Wv r->own t.held r=true->rT (run pg (k+9)) [Wv (bJ rs),Wv (.int t.row),Wv (.ref d),Wv (.ref l),Wv (.int i),u5] h= .ok true h:=λi t h u5 r el hm e ho=>by
  have lt:=(WA.mp e).1;have z:(t.row) < (rs.length:Int):=by omega
  have ow:=K9 T (k+8) h r el hm;rw[ho] at ow;simp? [rT,ln,z,ix h e,ow]
 intro m
 induction m with
 | zero =>
  intro i t D h u5 f hi hf ed el hm hs hD hp
  obtain⟨f,rfl⟩: ∃ j,f=j+1:=⟨f - 1,by omega⟩
  cases r1:bC rs t with
  | true =>
   have fr:bu rs 0 t=t:=by unfold bu;rw[if_pos r1]
   exact⟨D,_,hD,by rw[fr];exact hp,.inr ⟨_,_,_,_,by rw[fr]⟩,by rw[set_same ed];exact stop i t h u5 f el hm r1⟩
  | false =>
   obtain⟨r,e,ho⟩:=qc r1
   have fr:bu rs 0 t=⟨rs.length,t.ps,t.held⟩:=by unfold bu;rw[if_neg (by simp[r1])]
   have i200:(i:Int)=200:=by omega
   refine⟨D,.rt (.int rs.length),hD,by rw[fr];exact hp,.inl (by rw[fr]),?_⟩
   rw[set_same ed,cF,go i t h u5 r el hm e ho,dm,if_pos rfl]
   have st:rB (run pg (k+9)) [Wv (bJ rs),Wv (.int t.row),Wv (.ref d),Wv (.ref l),Wv (.int i),u5] h= .ok (.rt (.int rs.length)) h:=by
    simp? [rB,i200,ln]
   rw[st,dm]
 | succ m ih =>
  intro i t D h u5 f hi hf ed el hm hs hD hp
  obtain⟨f,rfl⟩: ∃ j,f=j+1:=⟨f - 1,by omega⟩
  cases r1:bC rs t with
  | true =>
   have fr:bu rs (m+1) t=t:=by unfold bu;rw[if_pos r1]
   exact⟨D,_,hD,by rw[fr];exact hp,.inr ⟨_,_,_,_,by rw[fr]⟩,by rw[set_same ed];exact stop i t h u5 f el hm r1⟩
  | false =>
   obtain⟨r,e,ho⟩:=qc r1
   have hrr:=hr r (WL e)
   have fr:bu rs (m+1) t=bu rs m (behind t r):=by
    rw[bu,if_neg (by simp[r1]),e]
   obtain⟨D1,a1,a2,a3⟩:=Ti T k hL ed e ho hrr hD hp hs.pk.nd (Wv (.ref l)) (Wv (.int ((i+1:Nat))))
   obtain⟨D',fl,b1,b2,b3,b4⟩:=ih (i+1) (behind t r) D1 (h.set d (.dct (fh D1))) (Wv (bF r)) f (by omega) (by omega) (kz (aC ed)) ((aV dl).trans el) (by rw[og];exact hm) (jQ hs hrr e) a1 a2
   refine⟨D',fl,b1,by rw[fr];exact b2,by rw[fr];exact b3,?_⟩
   have i200: ¬ (i:Int)=200:=by omega
   have up:(i)+1=((i+1:Nat):Int):=by omega
   rw[KN (go i t h u5 r el hm e ho) (e1:=[Wv (bJ rs),Wv (.int (behind t r).row),Wv (.ref d),Wv (.ref l),Wv (.int ((i+1:Nat))),Wv (bF r)]) (h2:=h.set d (.dct (fh D1))) ?_]
   . rw[b4,List.set_set]
   . simp? [rB,i200,ix h e,up,a3]
theorem zV k h (dl:d≠l) {hl:List Str} (hL:L.length<=20) (hr: ∀ r∈rs,fk L rs.length r) (ed:h[d]?=Wv (.dct (fh D))) (el:h[l]?=Wv (.lst (hl.map PV.str))) (hm: ∀ y,y∈hl↔y∈t.held) (hs:dw L rs t) (hD:sE L D) (hp: ∀ x,fP D x=fP t.ps x): ∃ D' ,sE L D'/\(∀ x,fP D' x=fP (bu rs 200 t).ps x) /\
  run pg (k+10) "_law_rest" [bJ rs,.int t.row,.ref d,.ref l] h= .ok (.int (bu rs 200 t).row) (h.set d (.dct (fh D'))):=by
 obtain⟨D',fl,a1,a2,a3,a4⟩:=Bs T k dl hL hr 200 0 t D h Wx 100000 (by decide) (by decide) ed el hm hs hD hp;refine⟨D',a1,a2,?_⟩;rw[run_eq T.xF rfl];have a4':cF (rT (run pg (k+9))) (rB (run pg (k+9))) 100000 [Wv (bJ rs),Wv (.int t.row),Wv (.ref d),Wv (.ref l),Wv (.int 0),Wx] h= .ok fl (h.set d (.dct (fh D'))):=a4;unfold rT rB rA at a4';have se: ∀ v:PV,P3.settle h v (h.set d (.dct (fh D')))= .ok v (h.set d (.dct (fh D'))):=λv=>ox (o:= .dct (fh D));rcases a3 with rfl | ⟨u2,u3,u4,u5,rfl⟩
 . simp? [ft,ju,Kx,a4',se]
 . simp? [ft,ju,Kx,a4',se]
end
structure Pg where
 bs:List (Str × Int)
 s1:List Str
 s2:List Str
 s3:List Str
 hs:List (Str × List Rw)
def Pg.v(P:Pg):PV:= .tup [.tup (P.bs.map d8),.tup (P.s1.map PV.str),.tup (P.s2.map PV.str),.tup (P.s3.map PV.str),.tup (P.hs.map bz)]
def Pg.nm(P:Pg):=UI (P.bs.map (·.1)) P.s1 P.s2 P.s3
structure Pg.Ok(P:Pg):Prop where
 bx:P.bs.length<=20/\ ∀ z∈P.bs,nz z.1=true/\0<=z.2/\z.2<=999
 nm:B2 P.s1/\B2 P.s2/\B2 P.s3
 many:1<=P.hs.length/\P.hs.length<=4
 hd: ∀ h∈P.hs,kH (P.bs.map (·.1)) P.s1 P.s2 P.s3 h
theorem Ux.pg(h:Ux bs s1 s2 s3 hs p):p=Pg.v ⟨bs,s1,s2,s3,hs⟩/\Pg.Ok ⟨bs,s1,s2,s3,hs⟩:=⟨h.at_,h.bx,h.nm,h.many,h.hd⟩
theorem Pg.hand(P:Pg){i:Nat}(e:P.hs[i]?=Wv x):nR P.v (i) x.2:=⟨_,_,_,_,_,_,rfl,P3.eW rfl (by rw[WT,e];rfl)⟩
def DB(x:Str × List Rw)(L:List Str):=L.length<=6/\(∀ y∈L,xH y=true)/\ ∀ r∈x.2,fk L x.2.length r
noncomputable def LM(x:Str × List Rw):=Classical.epsilon (DB x)
theorem fz(h:kH s0 s1 s2 s3 x):DB x (LM x):=by
 obtain⟨_,L,l1,l2,l3⟩:=h;exact Classical.epsilon_spec (p:=DB x) ⟨L,l1,l2,λr m=>(l3 r m).1⟩
structure Wd where
 aZ:List Int
 bT:List eL
 jc:List (Int × PV)
 eJ:List (Option Int × PV)
 cW:List (Int × Int × List Int)
 kK:List Int
noncomputable def ib(b:Int × PV):PV:= .tup [.int b.1,b.2]
noncomputable def Ku:Option Int->PV
 | none=> .non
 | some i=> .int i
def fD(l:Option Int × PV):PV:= .tup [Ku l.1,l.2]
def fF(n:Int × Int × List Int):PV:= .tup [.int n.1,.int n.2.1,.tup (n.2.2.map PV.int)]
def aJ(S:Wd):PV:= .tup [.tup (S.aZ.map PV.int),.tup (S.bT.map aE),.tup (S.jc.map ib),.tup (S.eJ.map fD),.tup (S.cW.map fF),.tup (S.kK.map PV.int)]
def tW(N:Nat)(v:PV):=v= .non\/ ∃ a b ,v= .tup [.int a,.int b]/\0<=a/\a < 4/\0<=b/\b<=N
theorem tW.flat(h:tW N v):v.flat=true:=by
 rcases h with rfl | ⟨a,b,rfl,_⟩<;>rfl
structure Rv(P:Pg)(N:Nat)(x:Str × List Rw)(s:eL):Prop where
 so:dw (LM x) x.2 s
 nd:s.held.Nodup
 le:s.held.length<=N
 re:bC x.2 s=true
 nm: ∀ l∈s.held,l∈P.s1
 sr:s.held.Pairwise jU
structure fI(P:Pg)(N:Nat)(S:Wd):Prop where
 lc:S.aZ.length=P.hs.length
 ls:S.bT.length=P.hs.length
 l0:S.jc.length=P.bs.length
 l1:S.eJ.length=P.s1.length
 l2:S.cW.length=P.s2.length
 l3:S.kK.length=P.s3.length
 ct: ∀ c∈S.aZ,0<=c/\c<=N
 bx: ∀ b∈S.jc,(0<=b.1/\b.1<=999)/\tW N b.2
 lk: ∀ l∈S.eJ,(∀ i,l.1=Wv i->0<=i/\i < 4)/\tW N l.2
 ln: ∀ n∈S.cW,(0<=n.1/\n.1<=N)/\(0<=n.2.1/\n.2.1<=N)/\n.2.2.length<=N/\ ∀ v∈n.2.2,0<=v/\v<=999
 dr: ∀ d∈S.kK,0<=d/\d<=N
 se: ∀(j:Nat)(x:Str × List Rw)(s:eL),P.hs[j]?=Wv x->S.bT[j]?=Wv s->Rv P N x s
def kj(P:Pg)(S:Wd):Option Rw->PV
 | none=> .str "end"
 | some (.take l)=>match S.eJ[(P.nm 1).idxOf l]? with
  | some (Wv i,_)=> .tup [.str "lock",.str l,.int i]
  | _=> .non
 | some (.fetch _ l)=>match S.cW[(P.nm 2).idxOf l]? with
  | some (_,_,[])=> .tup [.str "letter",.str l]
  | _=> .non
 | some _=> .non
noncomputable def rowAt(P:Pg)(S:Wd)(j:Nat):Option Rw:=match P.hs[j]?,S.bT[j]? with
 | some x,Wv s=>x.2[s.row]?
 | _,_=>Wx
def cT P S (j:Nat):=kj P S (rowAt P S j)
theorem fe(e1:P.hs[j]?=Wv x)(e2:S.bT[j]?=Wv s):rowAt P S j=x.2[s.row]?:=by unfold rowAt;rw[e1,e2]
theorem bL{P:Pg}(ok:P.Ok){j:Nat}(e:P.hs[j]?=Wv x)(m:r∈x.2)(q:r.th=Wv (k,t)):t∈P.nm k:=by
 obtain⟨_,L,_,_,l3⟩:=ok.hd x (WL e);exact(l3 r m).2 k t (Tw q)
theorem Lo{P:Pg}(ok:P.Ok){j:Nat}(e:P.hs[j]?=Wv x)(m:r∈x.2)(q:r.nm=Wv (k,t)):t∈P.nm k:=by
 obtain⟨_,L,_,_,l3⟩:=ok.hd x (WL e);exact(l3 r m).2 k t q
theorem bp{α :Type}{l:List α}{ns:List Str}(hl:l.length=ns.length)(m:t∈ns): ∃ z,l[ns.idxOf t]?=Wv z/\z∈l:=by
 have h:ns.idxOf t < l.length:=by rw[hl];exact abg m
 exact⟨l[ns.idxOf t],WD h,YM h⟩
theorem bG{α :Type}{f: α ->PV}{l:List α}{n:Nat}{z}(e:l[n]?=Wv z):dZ (l.map f) (n)=Wv (f z):=P3.eW rfl (by rw[WT,e];rfl)
theorem mH(W:fI P N S)(h:j < P.hs.length): ∃ x s c,P.hs[j]?=Wv x/\S.bT[j]?=Wv s/\S.aZ[j]?=Wv c/\Rv P N x s:=by
 have h1:j < S.bT.length:=by rw[W.ls];exact h
 have h2:j < S.aZ.length:=by rw[W.lc];exact h
 exact⟨P.hs[j],S.bT[j],S.aZ[j],WD h,WD h1,WD h2,W.se j _ _ (WD h) (WD h1)⟩
theorem i8: ∀ n s,bC rs (bu rs n s)=true
 | 0,s=>by
  unfold bu;split
  . assumption
  . unfold bC;rw[Yj (WG _)]
 | n+1,s=>by
  unfold bu;split
  . assumption
  . split
    . rename_i e;unfold bC;rw[e]
    . exact i8 n _
theorem CS{α :Type}{l:List α}{g f: α ->PV}{st:PV->PH->RV (Option PV)}{H:PH}(hl:l.length<=1000)(he: ∀ x∈l,st (g x) H= .ok (Wv (f x)) H):gL ⟨Wx,l.map g⟩ st (l.map g) [] H= .ok (l.map f) H :=
 (dW rfl l [] (f:=λx=>Wv (f x)) (g:=g) he (by simp;omega)).trans (by rw[XF,aaF])
noncomputable def m7:Nat->Str
 | 0=> "box" | 1=> "lock" | 2=> "lane" | _=> "door"
def Fy(S:Wd) 
 | 0=>S.jc.map ib | 1=>S.eJ.map fD | 2=>S.cW.map fF | _=>S.kK.map PV.int
section
variable{pg:Tb}(T:bN pg)
include T
theorem wQ k h (P:Pg) (ok:P.Ok) i:run pg (k+1) "names_of" [P.v,.str (m7 i)] h= .ok (.ref h.length) (h++[.lst ((P.nm i).map PV.str)]):=by
 have b20:=ok.bx.1;rw [run_eq T.zw rfl];have ik: ∀(a:Str)(n:Nat),a∈(["box", "lock", "lane", "door", "hand"]:List Str)->(["box", "lock", "lane", "door", "hand"]:List Str).idxOf a=n->yT (.ktup [(.str "box"),(.str "lock"),(.str "lane"),(.str "door"),(.str "hand")]) [.str a] h= .ok (.int (n:Nat)) h:=λa n m e=>by rw [<- e];exact MY (ss:=["box", "lock", "lane", "door", "hand"]) m
 match i with
 | 0 =>
  have q:yT (.ktup [(.str "box"),(.str "lock"),(.str "lane"),(.str "door"),(.str "hand")]) [.str "box"] h= .ok (.int 0) h:=ik "box" 0 (by decide +kernel) (by decide +kernel)
  have lc: ∀ E ,E=[Wv P.v,Wv (.str "box"),Wv (.tup (P.bs.map d8))]->gL ⟨Wx,P.bs.map d8⟩ (aO 1 (gN 3) aN (eX 3 0) (run pg k) E) (P.bs.map d8) [] h= .ok ((P.bs.map (·.1)).map PV.str) h:=by
   rintro _ rfl;rw[XB];refine CS (l:=P.bs) (f:=PV.str ∘ λz:Str × Int=>z.1) (by omega) λx _=>?_;rfl
  have lc':=lc _ rfl
  unfold Pg.v at lc'
  simp? [iS,pQ,Pg.v,m7,Tn,q,lc']
  exact bh rfl
 | 1 =>
  have q:=ik "lock" 1 (by decide +kernel) (by decide +kernel)
  have q':=q
  exact bh rfl
 | 2 =>
  have q:=ik "lane" 2 (by decide +kernel) (by decide +kernel)
  have q':=q
  exact bh rfl
 | (n+3) =>
  have q:=ik "door" 3 (by decide +kernel) (by decide +kernel)
  have q':=q
  exact bh rfl
theorem m6 k h {P:Pg} (ok:P.Ok) (m:t∈P.nm i):run pg (k+2) "number_of" [P.v,.str (m7 i),.str t] h= .ok (.int ((P.nm i).idxOf t)) h:=by
 have n1:=wQ T k h P ok i;have e:(h++[PO.lst ((P.nm i).map PV.str)])[h.length]?=Wv (.lst ((P.nm i).map PV.str)):=aR;have i1:=NH e t;have i2:=t7 e m;rw[run_eq T.om rfl];simp? [fj,jB,n1,i1,m,i2];exact bU rfl
theorem qx k h {P:Pg} (ok:P.Ok) S (i4:i < 4) (m:t∈P.nm i) (e:(Fy S i)[(P.nm i).idxOf t]?=Wv z):run pg (k+3) "state_of" [P.v,aJ S,.str (m7 i),.str t] h= .ok z h:=by
 have n1:=m6 T k h ok m;have a1:=P3.eW rfl e;have ix: ∀ g,aB (.tup (Fy S i)) (.int (((P.nm i).idxOf t:Nat):Int)) g= .ok z g:=λg=>kD a1;have pl:cx cz (.inr (m7 i))=Wv (.int ((2+i:Nat))):=by
  match i,i4 with
  | 0,_=>decide +kernel
  | 1,_=>decide +kernel
  | 2,_=>decide +kernel
  | 3,_=>decide +kernel
 have st: ∀ g,aB (aJ S) (.int ((2+i:Nat):Int)) g= .ok (.tup (Fy S i)) g:=λg=>by
  match i,i4 with
  | 0,_=>exact vI
  | 1,_=>exact Bc
  | 2,_=>exact uE
  | 3,_=>exact MV
 rw[run_eq T.zD rfl];simp? [iO,pC,pl,st,n1,ix]
end
theorem lay_ints: ∀ ls:List Int,YE (ls.map abt)=true
 | []=>rfl
 | i::r=>by rw[WH,YE,lay_ints r];rfl
theorem kO: ∀ ls:List Int,bX f (ls.map PV.int)=Wv (ls.map abt)
 | []=>rfl
 | x::r=>by rw[WH,bX,kO r];rfl
theorem oY:kb (.tup (ls.map PV.int)) (.tup []) h= .ok (.bl (decide (ls=[]))) h:=by
 have d1:dat 6 h (.tup (ls.map PV.int))=Wv (.tuple (ls.map abt)):=by unfold dat;rw[ji,kO];rfl
 have d2:dat 6 h (.tup [])=Wv (.tuple []):=rfl;have sc:lD (.tup (ls.map PV.int)) (.tup [])=false:=rfl;have c1:(abf (ls.map abt)).canLay0=true:=by rw[ac2,lay_ints]
 have c2:(abf []).canLay0=true:=rfl;have c3:min (abf (ls.map abt)).depth (abf []).depth<=64:=Xb (aaM _ _) (by decide);have al:alike (.tup (ls.map PV.int)) (.tup []) h=Wv (decide (ls=[])):=by
  unfold alike;rw[sc,d1,d2];simp only[Zv,if_false,c1,c3,if_true];cases ls<;>rfl
 unfold kb;rw[al]
theorem Dh s r: ∃ t v,bZ s r= .tup [.str r.w,t,v]:=by cases r<;>exact⟨_,_,rfl⟩
theorem xf(r:Rw):(∃ l,r= .take l)\/(∃ x l,r= .fetch x l)\/(¬ r.w= "take" /\ ¬ r.w= "fetch" /\ ∀ P S,kj P S (Wv r)= .non):=by
 cases r with
 | take l=>exact .inl ⟨l,rfl⟩
 | fetch x l=>exact .inr (.inl ⟨x,l,rfl⟩)
 | _=>exact .inr (.inr ⟨by simp only[Rw.w];decide +kernel,by simp only[Rw.w];decide +kernel,λ_ _=>rfl⟩)
section
variable{pg:Tb}(T:bN pg)
include T
theorem ya k h (ok:P.Ok) (W:fI P N S) (hj:j < P.hs.length):run pg (k+11) "wait_of" [P.v,aJ S,.int j] h= .ok (cT P S j) h:=by
 obtain⟨x,s,c,ex,es,ec,so⟩:=mH W hj;obtain⟨l1,l2,l3⟩:=fz (ok.hd x (WL ex));have to:=oz T k h (by omega) (P.hand ex) l3 so.so;have i1: ∀ g,aB (aJ S) (.int 1) g= .ok (.tup (S.bT.map aE)) g:=λg=>jf;have i2: ∀ g,aB (.tup (S.bT.map aE)) (.int j) g= .ok (aE s) g:=λg=>kD (bG es);rw[run_eq T.B8 rfl];unfold cT;rw[fe ex es];unfold qW at to;cases e:x.2[s.row]? with
 | none =>
  rw[e] at to
  simp? [cP,eE,i1,i2,to,kj]
 | some r =>
  rw[e] at to
  have mr:=WL e
  rcases xf r with⟨l,rfl⟩ | ⟨y,l,rfl⟩ | ⟨n1,n2,n3⟩
  . have m:=bL ok ex mr (k:=1) (t:=l) rfl;obtain⟨z,ez,mz⟩:=bp (l:=S.eJ) (ns:=P.nm 1) W.l1 m;have so:=qx T (k+7) h ok S (i:=1) (by decide) m (z:=fD z) (by show(S.eJ.map fD)[_]?=_;rw[WT,ez];rfl);have so':run pg (k+10) "state_of" [P.v,aJ S,.str "lock",.str l] h= .ok (fD z) h:=so;obtain⟨zh,zm⟩:=z;simp only[kj,ez];cases zh with
    | none=>simp? [cP,eE,i1,i2,to,bZ,so',fD,Ku]
    | some i=>simp? [cP,eE,i1,i2,to,bZ,so',fD,Ku]
  . have m:=bL ok ex mr (k:=2) (t:=l) rfl;obtain⟨z,ez,mz⟩:=bp (l:=S.cW) (ns:=P.nm 2) W.l2 m;have so:=qx T (k+7) h ok S (i:=2) (by decide) m (z:=fF z) (by show(S.cW.map fF)[_]?=_;rw[WT,ez];rfl);have so':run pg (k+10) "state_of" [P.v,aJ S,.str "lane",.str l] h= .ok (fF z) h:=so;obtain⟨a,b,ls⟩:=z;simp only[kj,ez];cases ls with
    | nil =>
     have q:=oY (ls:=[]) (h:=h)
     rw[Xc] at q
     simp? [cP,eE,i1,i2,to,bZ,so',fF,q]
    | cons i r =>
     have q:=oY (ls:=i::r) (h:=h)
     have ne:decide (i::r=[])=false:=rfl
     rw[ne,WH] at q
     simp? [cP,eE,i1,i2,to,bZ,so',fF,q]
  . obtain⟨t,v,et⟩:=Dh s r;have to':run pg (k+10) "touch_of" [P.v,.int j,aE s] h= .ok (bZ s r) h:=to;rw[et] at to';rw[n3];simp? [cP,eE,i1,i2,to',n1,n2]
end
def fN P S:=(Xj P.hs.length).filter λj=>decide (cT P S j= .non)
theorem nN{α β :Type} p (f: α -> β): ∀ l:List α,(l.filterMap λj=>if p j=true then Wv (f j) else Wx)=(l.filter p).map f
 | []=>rfl
 | x::r=>by
  by_cases z:p x=true
  . rw[Zh (by rw[if_pos z]),Xm z,WH,nN p f r]
  . rw[Zg (by rw[if_neg z]),XC z,nN p f r]
noncomputable def cL(j:Nat):PV:= .int (j)
theorem RC:gA false x h= .ok (.bl (decide (x= .non))) h:=rfl
theorem BC(e1:h[n]?=Wv (.lst xs))(e2:h[m]?=Wv (.lst []))(d: ∀ sub,bX sub xs=Wv ds)(c:YE ds=true):alike (.ref n) (.ref m) h=Wv (decide (xs=[])):=by
 have d1:dat 6 h (.ref n)=Wv (.list ds):=by unfold dat;simp only[ji,e1,d,YW]
 have d2:dat 6 h (.ref m)=Wv (.list []):=by unfold dat;simp only[ji,e2,bX,YW]
 have c1:(Zp ds).canLay0=true/\(Zp []).canLay0=true/\min (Zp ds).depth (Zp []).depth<=64:=⟨by exact c,rfl,Xb (aaM _ _) (by decide)⟩
 unfold alike;rw[show lD (.ref n) (.ref m)=false from rfl,d1,d2];simp only[Zv,if_false];rw[if_pos c1];cases xs with
 | nil =>
  have:=d λ_=>Wx
  cases this
  rfl
 | cons x r =>
  have q:=d λ_=>Wx
  cases ds with
  | nil =>
   rw[bX] at q
   split at q
   . cases q
   . cases q
  | cons a b=>rfl
theorem Az(e1:h[n]?=Wv (.lst xs))(e2:h[m]?=Wv (.lst []))(d: ∀ sub,bX sub xs=Wv ds)(c:YE ds=true):ke (.ref n) (.ref m) h= .ok (.bl (!decide (xs=[]))) h:=by
 have nd:gS h (.ref n)=false:=by simp only[gS,e1]
 unfold ke;rw[BC e1 e2 d c,nd];rfl
theorem Dm(l:List Nat):l.map cL=(l.map λj:Nat=>(j:Int)).map PV.int:=by rw[XB];rfl
theorem Ln(l:List Nat): ∃ ds ,(∀ sub,bX sub (l.map cL)=Wv ds)/\YE ds=true:=by
 rw[Dm];exact⟨_,λsub=>kO _,lay_ints _⟩
noncomputable def jI(j:Nat)(c:Int):PV:= .tup [.int (j),.int c]
def Rw.tg:Rw->Str
 | .hear _ d=>d
 | r=>match r.th with
  | some (_,t)=>t
  | none=> ""
def met(P:Pg)(S:Wd)(j:Nat)(c:Int)(s:eL)(g:PV):Rw->Wd × PV × PV
 | .get _ b=>(S,.int ((S.jc[(P.nm 0).idxOf b]?).getD (0,.non)).1,((S.jc[(P.nm 0).idxOf b]?).getD (0,.non)).2)
 | .put b e=>({ S with jc:=S.jc.set ((P.nm 0).idxOf b) (e.val (fP s.ps),jI j c)},.int (e.val (fP s.ps)),((S.jc[(P.nm 0).idxOf b]?).getD (0,.non)).2)
 | .take l=>({ S with eJ:=S.eJ.set ((P.nm 1).idxOf l) (Wv (j),((S.eJ[(P.nm 1).idxOf l]?).getD (Wx,.non)).2)},.non,((S.eJ[(P.nm 1).idxOf l]?).getD (Wx,.non)).2)
 | .free l=>({ S with eJ:=S.eJ.set ((P.nm 1).idxOf l) (Wx,jI j c)},.non,.non)
 | .send l e=>({ S with cW:=S.cW.set ((P.nm 2).idxOf l) (((S.cW[(P.nm 2).idxOf l]?).getD (0,0,[])).1+1,((S.cW[(P.nm 2).idxOf l]?).getD (0,0,[])).2.1,((S.cW[(P.nm 2).idxOf l]?).getD (0,0,[])).2.2++[e.val (fP s.ps)])},.int (e.val (fP s.ps)),.int ((S.cW[(P.nm 2).idxOf l]?).getD (0,0,[])).1)
 | .fetch _ l=>({ S with cW:=S.cW.set ((P.nm 2).idxOf l) (((S.cW[(P.nm 2).idxOf l]?).getD (0,0,[])).1,((S.cW[(P.nm 2).idxOf l]?).getD (0,0,[])).2.1+1,((S.cW[(P.nm 2).idxOf l]?).getD (0,0,[])).2.2.tail)},.int (((S.cW[(P.nm 2).idxOf l]?).getD (0,0,[])).2.2.headD 0),.int ((S.cW[(P.nm 2).idxOf l]?).getD (0,0,[])).2.1)
 | .say d e=>({ S with kK:=S.kK.set ((P.nm 3).idxOf d) ((S.kK[(P.nm 3).idxOf d]?).getD 0+1)},.int (e.val (fP s.ps)),.int ((S.kK[(P.nm 3).idxOf d]?).getD 0))
 | _=>(S,g,.non)
noncomputable def mK(S:Wd)(j:Nat)(c:Int)(t:eL):={ S with aZ:=S.aZ.set j (c+1),bT:=S.bT.set j t}
def c7(r:Rw)(v m:PV):PV:= .tup [.str r.w,.str r.tg,v,m]
def gz P S (j:Nat) (c:Int) (rs:List Rw) (s:eL) g r:=mK (met P S j c s g r).1 j c (bu rs 200 (after s (met P S j c s g r).2.1 r))
noncomputable def dR:Rw->Bool
 | .clock _=>true | .lot _ _=>true | .hear _ _=>true
 | _=>false
def fE r (g:PV):=(dR r=true-> ∃ i ,g= .int i∧0<=i∧i<=999∧ ∀ x n,r= .lot x n->i < n)∧(dR r=false->g= .non)
theorem bM{α :Type}(f: α ->PV)(l:List α) n z:(l.map f).set n (f z)=(l.set n z).map f:=adX.symm
theorem qp(h:r.th=Wv (i,t)):cx gp (.inr r.w)=Wv (.str (m7 i))∧ ¬ r.w∈(["clock", "lot", "hear"]:List Str)∧i < 4∧dR r=false∧r.tg=t:=by
 cases r<;>cases h<;>exact ⟨by simp only [Rw.w];decide +kernel,by simp only [Rw.w];decide +kernel,by decide,rfl,rfl⟩
theorem jO(h:dR r=true):r.w∈(["clock", "lot", "hear"]:List Str)∧r.th=Wx∧ ∀ P S j c s g,met P S j c s g r=(S,g,.non):=by
 cases r<;>first | exact ⟨by simp only [Rw.w];decide +kernel,rfl,λ_ _ _ _ _ _=>rfl⟩ | cases h
theorem pN s (h:dR r=true): ∃ tv,bZ s r= .tup [.str r.w,.str r.tg,tv]∧((∃ x n,r= .lot x n∧tv= .int n)∨ ¬ r.w= "lot"):=by
 cases r<;>first | exact ⟨_,rfl,.inl ⟨_,_,rfl,rfl⟩⟩ | exact ⟨_,rfl,.inr (by simp only [Rw.w];decide +kernel)⟩ | cases h
theorem wD s (h:r.th=Wv (i,t)): ∃ tv,bZ s r= .tup [.str r.w,.str t,tv]:=by
 cases r<;>cases h<;>exact⟨_,rfl⟩
theorem jL(h:bC rs s=true)(e:rs[s.row]?=Wv r):own s.held r=false/\((∃ i t,r.th=Wv (i,t))\/dR r=true):=by
 unfold bC at h;rw[e] at h;have ho:own s.held r=false:=by simpa using h
 refine⟨ho,?_⟩;cases r<;>first | exact .inr rfl | exact .inl ⟨_,_,rfl⟩ | cases ho
section
variable{pg:Tb}(T:bN pg)
include T
theorem dA k h xs (n:Nat) v (hn:n < xs.length) (hx:xs.length<=1000):run pg (k+1) "replaced" [.tup xs,.int (n),v] h= .ok (.tup (xs.set n v)) h:=by
 have c1:gM xs Wx (Wv (n))=xs.take n:=by rw[P3.o7 (by omega)];rfl
 have c2:gM xs (Wv ((n)+1)) Wx=xs.drop (n+1):=by rw[P3.ig (by omega)];congr 1
 have a1: ∀ g,aU (.tup (xs.take n)) (.tup [v]) g= .ok (.tup (xs.take n++[v])) g:=λg=>lA (by simp only[Xz,WE,Xf];omega);have a2: ∀ g,aU (.tup (xs.take n++[v])) (.tup (xs.drop (n+1))) g= .ok (.tup (xs.take n++[v]++xs.drop (n+1))) g:=λg=>lA (by simp only[WR,Xz,YJ,WE,Xf];omega);have es:xs.set n v=xs.take n++[v]++xs.drop (n+1):=by rw[List.set_eq_take_append_cons_drop,if_pos hn];simp
 rw[es,run_eq T.yG rfl];simp? [iW,pH,c1,c2,a1,↓a2]
theorem qz k h (h0:a<=i) (h9:i<=b):run pg (k+2) "is_between" [.int i,.int a,.int b] h= .ok (.bl true) h:=by
 have w:run pg (k+1) "is_whole" [.int i] h= .ok (.bl true) h:=by
  rw[run_eq T.yt rfl];simp? [iN,qf,L8,PJ]
 rw [run_eq T.uA rfl];simp? [fJ,mM,w,h0,h9]
theorem JC k h s (hg:fE r g) (hc:(∃ i t,r.th=Wv (i,t))∨dR r=true):run pg (k+5) "takes_gift" [bZ s r,g] h= .ok (.bl true) h:=by
 have ink: ∀ a:Str,jw (.str a) (.ktup [(.str "clock"),(.str "lot"),(.str "hear")]) h= .ok (.bl (decide (a∈(["clock", "lot", "hear"]:List Str)))) h:=λa=>in_K (ss:=["clock", "lot", "hear"]);rw [run_eq T.uG rfl];rcases hc with ⟨i,t,ht⟩ | hq
 . obtain ⟨_,n2,_,n4,_⟩:=qp ht;obtain⟨tv,et⟩:=wD s ht;have eg:=hg.2 n4;subst eg;rw[et];simp? [dX,iU,ink,n2]
 . obtain⟨m1,_⟩:=jO hq;obtain⟨i,rfl,i0,i9,il⟩:=hg.1 hq;obtain⟨tv,et,cl⟩:=pN s hq;have iv:run pg (k+3) "is_value" [.int i] h= .ok (.bl true) h:=by
    have:=qz T k h i0 i9;rw[run_eq T.zA rfl];simp? [iY,qF,this]
   have mc:run pg (k+4) "may_come" [bZ s r,.int i] h= .ok (.bl true) h:=by
    rw[run_eq T.xW rfl];rcases cl with⟨x,n,rfl,rfl⟩ | cl
    . have lt:=il x n rfl;rw[et];simp? [fY,kr,iv,Rw.w,lt]
    . rw[et];simp? [fY,kr,iv,cl]
   rw[et] at mc ⊢;simp? [dX,iU,ink,m1,mc]
theorem D7 k h (ok:P.Ok) (W:fI P N S) (ex:P.hs[j]?=Wv x) (es:S.bT[j]?=Wv s) (er:x.2[s.row]?=Wv r) (hw:cT P S j= .non) (hg:fE r g):run pg (k+12) "due_touch" [P.v,aJ S,.int j,g] h= .ok (bZ s r) h:=by
 have hj:=(WA.mp ex).1;have so:=W.se j x s ex es;obtain⟨l1,l2,l3⟩:=fz (ok.hd x (WL ex));have to:=oz T (k+1) h (by omega) (P.hand ex) l3 so.so;unfold qW at to;rw[er] at to;have to':=to;have i1: ∀ g,aB (aJ S) (.int 1) g= .ok (.tup (S.bT.map aE)) g:=λg=>jf;have i2: ∀ g,aB (.tup (S.bT.map aE)) (.int j) g= .ok (aE s) g:=λg=>kD (bG es);have i4: ∀ g,aB P.v (.int 4) g= .ok (.tup (P.hs.map bz)) g:=λg=>uE;have w:=ya T k h ok W hj;rw[hw] at w;have bt:=qz T (k+9) h (i:=(j)) (a:=0) (b:=(P.hs.length) - 1) (by omega) (by omega);have tg:=JC T (k+6) h s hg (jL so.re er).2;have en:kb .non (.str "end") h= .ok (.bl false) h:=rfl;rw[run_eq T.vV rfl];simp? [gQ,oq,i4,Wy,bt,w,en,i1,i2,to',tg]
theorem qN k h (ok:P.Ok) (W:fI P N S) (N9:N<=60) {j:Nat} (ex:P.hs[j]?=Wv x) (es:S.bT[j]?=Wv s) (ec:S.aZ[j]?=Wv c) (er:x.2[s.row]?=Wv r) (h1:S1.aZ=S.aZ) (h2:S1.bT=S.bT) (hv: ∀ x,r.gc=Wv x-> ∃ i ,v= .int i/\0<=i/\i<=999):run pg (k+12) "with_hand_on" [P.v,aJ S1,.int j,v] h= .ok (aJ (mK S1 j c (bu x.2 200 (after s v r)))) h:=by
 have so:=W.se j x s ex es;have hm:=ok.many;obtain⟨l1,l2,l3⟩:=fz (ok.hd x (WL ex))
 let t:=bu x.2 200 (after s v r)
 have sb:run pg (k+11) "seat_behind" [P.v,.int j,aE s,v] h= .ok (aE t) h:=pR T k h (by omega) (P.hand ex) l3 so.so (Xb so.le N9) er hv;have lj:=(WA.mp ex).1;have i0: ∀ g,aB (aJ S1) (.int 0) g= .ok (.tup (S.aZ.map PV.int)) g:=λg=>by rw[<- h1];exact qq
 have i1: ∀ g,aB (aJ S1) (.int 1) g= .ok (.tup (S.bT.map aE)) g:=λg=>by rw[<- h2];exact jf
 have i2: ∀ g,aB (.tup (S.bT.map aE)) (.int j) g= .ok (aE s) g:=λg=>kD (bG es);have i3: ∀ g,aB (.tup (S.aZ.map PV.int)) (.int j) g= .ok (.int c) g:=λg=>kD (bG ec);have lc:=W.lc;have ls:=W.ls;have r1:=dA T (k+10) h (S.aZ.map PV.int) j (.int (c+1)) (by rw[Wy];omega) (by rw[Wy];omega);rw[bM PV.int] at r1;have r2:=dA T (k+10) h (S.bT.map aE) j (aE t) (by rw[Wy];omega) (by rw[Wy];omega);rw[bM aE] at r2
 let B:List PV:=[.tup (S1.jc.map ib),.tup (S1.eJ.map fD),.tup (S1.cW.map fF),.tup (S1.kK.map PV.int)]
 have e1:aJ S1= .tup (.tup (S.aZ.map PV.int):: .tup (S.bT.map aE)::B):=by rw[<- h1,<- h2];rfl
 have r3:=dA T (k+10) h (.tup (S.aZ.map PV.int):: .tup (S.bT.map aE)::B) 0 (.tup ((S.aZ.set j (c+1)).map PV.int)) (by simp[B]) (by simp[B]);rw[<- e1] at r3;have r3':run pg (k+11) "replaced" [aJ S1,.int 0,.tup ((S.aZ.set j (c+1)).map PV.int)] h= .ok (.tup (.tup ((S.aZ.set j (c+1)).map PV.int):: .tup (S.bT.map aE)::B)) h:=r3;have r4:=dA T (k+10) h (.tup ((S.aZ.set j (c+1)).map PV.int):: .tup (S.bT.map aE)::B) 1 (.tup ((S.bT.set j t).map aE)) (by simp[B]) (by simp[B]);have r4':run pg (k+11) "replaced" [.tup (.tup ((S.aZ.set j (c+1)).map PV.int):: .tup (S.bT.map aE)::B),.int 1,.tup ((S.bT.set j t).map aE)] h= .ok (aJ (mK S1 j c t)) h:=by
  refine(show _=RV.ok (PV.tup (.tup ((S.aZ.set j (c+1)).map PV.int):: .tup ((S.bT.set j t).map aE)::B)) h from r4).trans ?_;unfold mK aJ;rw[h1,h2]
 show _=RV.ok (aJ (mK S1 j c t)) h;rw[run_eq T.qJ rfl];simp? [dY,jH,i0,i1,i2,i3,sb,r1,r2,r3',r4']
end
def ML(S:Wd)(i n:Nat)(z:PV):PV:= .tup ([.tup (S.aZ.map PV.int),.tup (S.bT.map aE),.tup (S.jc.map ib),.tup (S.eJ.map fD),.tup (S.cW.map fF),.tup (S.kK.map PV.int)].set (2+i) (.tup ((Fy S i).set n z)))
theorem LW{α :Type}{l:List α}{z}(e:l[n]?=Wv z):l.set n z=l:=by
 obtain⟨h,rfl⟩:=WA.mp e;exact acI h
theorem C5(W:fI P N S)(i4:i < 4):(Fy S i).length=(P.nm i).length:=by
 match i,i4 with
 | 0,_=>show(S.jc.map ib).length=(P.bs.map (·.1)).length;rw[Wy,Wy];exact W.l0
 | 1,_=>show(S.eJ.map fD).length=P.s1.length;rw[Wy];exact W.l1
 | 2,_=>show(S.cW.map fF).length=P.s2.length;rw[Wy];exact W.l2
 | 3,_=>show(S.kK.map PV.int).length=P.s3.length;rw[Wy];exact W.l3
theorem Ml{P:Pg}(ok:P.Ok)(i4:i < 4):(P.nm i).length<=20:=by
 match i,i4 with
 | 0,_=>show(P.bs.map (·.1)).length<=20;rw[Wy];exact ok.bx.1
 | 1,_=>exact ok.nm.1.1
 | 2,_=>exact ok.nm.2.1.1
 | 3,_=>exact ok.nm.2.2.1
section
variable{pg:Tb}(T:bN pg)
include T
theorem rC k h (ok:P.Ok) (W:fI P N S) (i4:i < 4) (m:t∈P.nm i) z:run pg (k+3) "with_state" [P.v,aJ S,.str (m7 i),.str t,z] h= .ok (ML S i ((P.nm i).idxOf t) z) h:=by
 have n1:=m6 T k h ok m;have hn:(P.nm i).idxOf t < (Fy S i).length:=by rw[C5 W i4];exact abg m
 have hx:=Ml ok i4;rw[<- C5 W i4] at hx;have pl:cx cz (.inr (m7 i))=Wv (.int ((2+i:Nat))):=by
  match i,i4 with
  | 0,_=>decide +kernel
  | 1,_=>decide +kernel
  | 2,_=>decide +kernel
  | 3,_=>decide +kernel
 have st: ∀ g,aB (aJ S) (.int ((2+i:Nat):Int)) g= .ok (.tup (Fy S i)) g:=λg=>by
  match i,i4 with
  | 0,_=>exact vI
  | 1,_=>exact Bc
  | 2,_=>exact uE
  | 3,_=>exact MV
 have r1:=dA T (k+1) h (Fy S i) ((P.nm i).idxOf t) z hn (by omega);have r2:=dA T (k+1) h [.tup (S.aZ.map PV.int),.tup (S.bT.map aE),.tup (S.jc.map ib),.tup (S.eJ.map fD),.tup (S.cW.map fF),.tup (S.kK.map PV.int)] (2+i) (.tup ((Fy S i).set ((P.nm i).idxOf t) z)) (by simp only[WE,Xf];omega) (by simp only[WE,Xf];omega);have r2':run pg (k+2) "replaced" [aJ S,.int ((2+i:Nat):Int),.tup ((Fy S i).set ((P.nm i).idxOf t) z)] h= .ok (ML S i ((P.nm i).idxOf t) z) h:=r2;rw [run_eq T.ub rfl];simp? [fT,lE,pl,st,n1,r1,r2']
theorem gh k h (ok : P.Ok) (W : fI P N S) (N9 : N <= 60) (ex : P.hs[j]? = some x) (es : S.bT[j]? = some s) (ec : S.aZ[j]? = some c) (er : x.2[s.row]? = some r) (hw : cT P S j = .non)
      (ht : r.th = some (i, t)) (ez : (Fy S i)[(P.nm i).idxOf t]? = some z) (me : run pg (k + 12) "meeting" [bZ s r, jI j c, z] h = .ok (.tup [v, m, z']) h) (h0 : ML S i ((P.nm i).idxOf t) z' = aJ S1) (h1 : S1.aZ = S.aZ) (h2 : S1.bT = S.bT) (hv : ∀ x, r.gc = some x -> ∃ i , v = .int i /\ 0 <= i /\ i <= 999) :
    run pg (k + 13) "gone" [P.v, aJ S, .int j, .non] h = .ok (.tup [aJ (mK S1 j c (bu x.2 200 (after s v r))), c7 r v m]) h := by
  obtain ⟨q1, q2, q3, q4, q5⟩ := qp ht;have tm := bL ok ex (WL er) ht;obtain ⟨tv, et⟩ := wD s ht;have du := D7 T k h ok W ex es er hw (g := .non) ⟨λe => (by cases (q4.symm.trans e)), λ_ => rfl⟩;have so := qx T (k + 9) h ok S q3 tm ez;have ws := rC T (k + 9) h ok W q3 tm z';rw [h0] at ws;have ho := qN T k h ok W N9 ex es ec er h1 h2 hv;have i0 : ∀ g, aB (aJ S) (.int 0) g = .ok (.tup (S.aZ.map PV.int)) g := λg => qq;have i3 : ∀ g, aB (.tup (S.aZ.map PV.int)) (.int j) g = .ok (.int c) g := λg => kD (bG ec);have ink : ∀ a : Str, jw (.str a) (.ktup [(.str "clock"), (.str "lot"), (.str "hear")]) h = .ok (.bl (decide (a ∈ (["clock", "lot", "hear"] : List Str)))) h := λa => in_K (ss := ["clock", "lot", "hear"]);unfold jI at me;unfold c7;rw [et] at du me;rw [q5, run_eq T.DE rfl];simp? (disch := omega) only [qi, xY, du, ink, q2, q1, i0, i3, so, me, ws, ho]
theorem B5 k h (ok:P.Ok) (W:fI P N S) (N9:N<=60) (ex:P.hs[j]?=Wv x) (es:S.bT[j]?=Wv s) (ec:S.aZ[j]?=Wv c) (er:x.2[s.row]?=Wv r) (hw:cT P S j= .non) (hq:dR r=true) (hg:fE r g) :
  run pg (k+13) "gone" [P.v,aJ S,.int j,g] h= .ok (.tup [aJ (mK S j c (bu x.2 200 (after s g r))),c7 r g .non]) h:=by
 obtain ⟨q1,q2,q3⟩:=jO hq;obtain⟨tv,et,_⟩:=pN s hq;have du:=D7 T k h ok W ex es er hw hg;obtain ⟨i,rfl,i0,i9,_⟩:=hg.1 hq;have ho:=qN T k h ok W N9 ex es ec er (S1:=S) rfl rfl (v:= .int i) (λ_ _=>⟨i,rfl,i0,i9⟩);have ink: ∀ a:Str,jw (.str a) (.ktup [(.str "clock"),(.str "lot"),(.str "hear")]) h= .ok (.bl (decide (a∈(["clock", "lot", "hear"]:List Str)))) h:=λa=>in_K (ss:=["clock", "lot", "hear"]);unfold c7;rw [et] at du;rw [run_eq T.DE rfl];simp? [qi,xY,du,ink,q1,ho]
theorem Gv k h (ok:P.Ok) (W:fI P N S) (N9:N<=60) (ex:P.hs[j]?=Wv x) (es:S.bT[j]?=Wv s) (ec:S.aZ[j]?=Wv c) (er:x.2[s.row]?=Wv r) (hw:cT P S j= .non) (hg:fE r g) :
  run pg (k+13) "gone" [P.v,aJ S,.int j,g] h= .ok (.tup [aJ (gz P S j c x.2 s g r),c7 r (met P S j c s g r).2.1 (met P S j c s g r).2.2]) h:=by
 have so:=W.se j x s ex es;have mr:=WL er;rcases(jL so.re er).2 with⟨i,t,ht⟩ | hq
 . obtain⟨q1,q2,q3,q4,q5⟩:=qp ht;have eg:=hg.2 q4;subst eg;have tm:=bL ok ex mr ht;cases r with
   | get y b =>
    obtain⟨z,ez,mz⟩:=bp (l:=S.jc) (ns:=P.nm 0) (by rw[W.l0];exact(Wy ..).symm) (bL ok ex mr (k:=0) (t:=b) rfl)
    have hz:=W.bx z mz
    have:=gh T k h ok W N9 ex es ec er hw (r:= .get y b) (i:=0) (t:=b) rfl (z:=ib z) (v:= .int z.1) (m:=z.2) (z':=ib z) (S1:=S) (by show(S.jc.map ib)[_]?=_;rw[WT,ez];rfl) (by
     rw[run_eq T.eF rfl];simp? [cC,dB,bZ,ib,jI]) (by
     show PV.tup [_,_,.tup ((S.jc.map ib).set _ (ib z)),_,_,_]=_;rw[bM ib,LW ez];rfl) rfl rfl (λ_ _=>⟨z.1,rfl,hz.1.1,hz.1.2⟩)
    simp only[gz,met,ez,W9]
    exact this
   | put b e =>
    obtain⟨z,ez,mz⟩:=bp (l:=S.jc) (ns:=P.nm 0) (by rw[W.l0];exact(Wy ..).symm) (bL ok ex mr (k:=0) (t:=b) rfl)
    have:=gh T k h ok W N9 ex es ec er hw (r:= .put b e) (i:=0) (t:=b) rfl (z:=ib z) (v:= .int (e.val (fP s.ps))) (m:=z.2) (z':=ib (e.val (fP s.ps),jI j c)) (S1:={ S with jc:=S.jc.set ((P.nm 0).idxOf b) (e.val (fP s.ps),jI j c)}) (by show(S.jc.map ib)[_]?=_;rw[WT,ez];rfl) (by
     rw[run_eq T.eF rfl];simp? [cC,dB,bZ,ib,jI]) (by
     show PV.tup [_,_,.tup ((S.jc.map ib).set _ (ib _)),_,_,_]=_;rw[bM ib];rfl) rfl rfl (λ_ q=>by cases q)
    simp only[gz,met,ez,W9]
    exact this
   | take l =>
    obtain⟨z,ez,mz⟩:=bp (l:=S.eJ) (ns:=P.nm 1) W.l1 (bL ok ex mr (k:=1) (t:=l) rfl)
    have:=gh T k h ok W N9 ex es ec er hw (r:= .take l) (i:=1) (t:=l) rfl (z:=fD z) (v:= .non) (m:=z.2) (z':=fD (Wv (j),z.2)) (S1:={ S with eJ:=S.eJ.set ((P.nm 1).idxOf l) (Wv (j),z.2)}) (by show(S.eJ.map fD)[_]?=_;rw[WT,ez];rfl) (by
     rw[run_eq T.eF rfl];simp? [cC,dB,bZ,fD,Ku,jI]) (by
     show PV.tup [_,_,_,.tup ((S.eJ.map fD).set _ (fD _)),_,_]=_;rw[bM fD];rfl) rfl rfl (λ_ q=>by cases q)
    simp only[gz,met,ez,W9]
    exact this
   | free l =>
    obtain⟨z,ez,mz⟩:=bp (l:=S.eJ) (ns:=P.nm 1) W.l1 (bL ok ex mr (k:=1) (t:=l) rfl)
    have:=gh T k h ok W N9 ex es ec er hw (r:= .free l) (i:=1) (t:=l) rfl (z:=fD z) (v:= .non) (m:= .non) (z':=fD (Wx,jI j c)) (S1:={ S with eJ:=S.eJ.set ((P.nm 1).idxOf l) (Wx,jI j c)}) (by show(S.eJ.map fD)[_]?=_;rw[WT,ez];rfl) (by
     rw[run_eq T.eF rfl];simp? [cC,dB,bZ,fD,Ku,jI]) (by
     show PV.tup [_,_,_,.tup ((S.eJ.map fD).set _ (fD _)),_,_]=_;rw[bM fD];rfl) rfl rfl (λ_ q=>by cases q)
    simp only[gz,met]
    exact this
   | send l e =>
    obtain⟨z,ez,mz⟩:=bp (l:=S.cW) (ns:=P.nm 2) W.l2 (bL ok ex mr (k:=2) (t:=l) rfl)
    have hz:=(W.ln z mz).2.2.1
    have ad: ∀ g,aU (.tup (z.2.2.map PV.int)) (.tup [.int (e.val (fP s.ps))]) g= .ok (.tup ((z.2.2++[e.val (fP s.ps)]).map PV.int)) g:=λg=>by
     rw[lA (by simp only[Wy,WE,Xf];omega),Xl];rfl
    have:=gh T k h ok W N9 ex es ec er hw (r:= .send l e) (i:=2) (t:=l) rfl (z:=fF z) (v:= .int (e.val (fP s.ps))) (m:= .int z.1) (z':=fF (z.1+1,z.2.1,z.2.2++[e.val (fP s.ps)])) (S1:={ S with cW:=S.cW.set ((P.nm 2).idxOf l) (z.1+1,z.2.1,z.2.2++[e.val (fP s.ps)])}) (by show(S.cW.map fF)[_]?=_;rw[WT,ez];rfl) (by
     rw[run_eq T.eF rfl];simp? [cC,dB,bZ,fF,jI,↓ad]) (by
     show PV.tup [_,_,_,_,.tup ((S.cW.map fF).set _ (fF _)),_]=_;rw[bM fF];rfl) rfl rfl (λ_ q=>by cases q)
    simp only[gz,met,ez,W9]
    exact this
   | fetch y l =>
    obtain⟨z,ez,mz⟩:=bp (l:=S.cW) (ns:=P.nm 2) W.l2 (bL ok ex mr (k:=2) (t:=l) rfl)
    have hz:=(W.ln z mz).2.2.2
    obtain⟨za,zb,zl⟩:=z
    obtain⟨i,ls,rfl⟩: ∃ i ls,zl=i::ls:=by
     cases zl with
     | cons i ls=>exact⟨i,ls,rfl⟩
     | nil =>
      unfold cT at hw
      rw[fe ex es,er] at hw
      simp only[kj,ez] at hw
      nomatch hw
    have hi:=hz i WW
    have:=gh T k h ok W N9 ex es ec er hw (r:= .fetch y l) (i:=2) (t:=l) rfl (z:=fF (za,zb,i::ls)) (v:= .int i) (m:= .int zb) (z':=fF (za,zb+1,ls)) (S1:={ S with cW:=S.cW.set ((P.nm 2).idxOf l) (za,zb+1,ls)}) (by show(S.cW.map fF)[_]?=_;rw[WT,ez];rfl) (by
     rw[run_eq T.eF rfl];simp? [cC,dB,bZ,fF,jI,pj]) (by
     show PV.tup [_,_,_,_,.tup ((S.cW.map fF).set _ (fF _)),_]=_;rw[bM fF];rfl) rfl rfl (λ_ _=>⟨i,rfl,hi.1,hi.2⟩)
    simp only[gz,met,ez,W9,aez,aa4]
    exact this
   | say d e =>
    obtain⟨z,ez,mz⟩:=bp (l:=S.kK) (ns:=P.nm 3) W.l3 (bL ok ex mr (k:=3) (t:=d) rfl)
    have:=gh T k h ok W N9 ex es ec er hw (r:= .say d e) (i:=3) (t:=d) rfl (z:= .int z) (v:= .int (e.val (fP s.ps))) (m:= .int z) (z':= .int (z+1)) (S1:={ S with kK:=S.kK.set ((P.nm 3).idxOf d) (z+1)}) (by show(S.kK.map PV.int)[_]?=_;rw[WT,ez];rfl) (by
     rw[run_eq T.eF rfl];simp? [cC,dB,bZ,jI]) (by
     show PV.tup [_,_,_,_,_,.tup ((S.kK.map PV.int).set _ (.int _))]=_;rw[bM PV.int];rfl) rfl rfl (λ_ q=>by cases q)
    simp only[gz,met,ez,W9]
    exact this
   | _=>cases ht
 . obtain⟨_,_,q3⟩:=jO hq;rw[gz,q3];exact B5 T k h ok W N9 ex es ec er hw hq hg
end
def sC(n:Nat):List (Key × PV):=[(.inr "counts",.ref (n+1)),(.inr "seats",.ref (n+2)),(.inr "doors",.ref (n+3)),(.inr "boxes",.ref (n+4)),(.inr "locks",.ref (n+5)),(.inr "lanes",.ref (n+6))]
theorem dJ n:cx (sC n) (.inr "counts")=Wv (.ref (n+1))/\cx (sC n) (.inr "seats")=Wv (.ref (n+2))/\cx (sC n) (.inr "doors")=Wv (.ref (n+3))/\cx (sC n) (.inr "boxes")=Wv (.ref (n+4))/\cx (sC n) (.inr "locks")=Wv (.ref (n+5))/\cx (sC n) (.inr "lanes")=Wv (.ref (n+6)):=by
 refine⟨?_,?_,?_,?_,?_,?_⟩<;>simp[sC,cx,cQ]
def Gf(n j:Nat)(s:eL):PV:= .tup [.int s.row,.ref (n+7+3*j),.ref (n+9+3*j)]
def sL n (ss:List eL):=ss.mapIdx (Gf n)
theorem DP(e:ss[j]?=Wv s):(sL n ss)[j]?=Wv (Gf n j s):=by unfold sL;rw[List.getElem?_mapIdx,e];rfl
theorem yC n ss:(sL n ss).length=ss.length:=by unfold sL;simp
theorem OI n j ss t:(sL n ss).set j (Gf n j t)=sL n (ss.set j t):=by
 refine adU λi=>?_;unfold sL;by_cases e:j=i
 . by_cases l:j < ss.length<;>simp[l]
 . simp[e]
def cell(n:Nat)(S:Wd):Nat->PO
 | 0=> .dct (sC n) | 1=> .lst (S.aZ.map PV.int) | 2=> .lst (sL n S.bT) | 3=> .lst (S.kK.map PV.int)
 | 4=> .lst (S.jc.map ib) | 5=> .lst (S.eJ.map fD) | _=> .lst (S.cW.map fF)
def Wf(H:PH)(d l:Nat)(L:List Str)(s:eL):= ∃(D:Pk)(hl:List Str),H[d]?=Wv (.dct (fh D))/\H[l]?=Wv (.lst (hl.map PV.str))/\sE L D/\(∀ x,fP D x=fP s.ps x)/\hl.Nodup/\ ∀ y,y∈hl↔y∈s.held
structure Rep(H:PH)(n:Nat)(P:Pg)(S:Wd)(ss:List eL):Prop where
 c: ∀ i,i < 7->H[n+i]?=Wv (cell n S i)
 p: ∀(j:Nat)(x:Str × List Rw)(s:eL),P.hs[j]?=Wv x->ss[j]?=Wv s->Wf H (n+7+3*j) (n+9+3*j) (LM x) s
 g: ∀ j,j < P.hs.length->H[n+8+3*j]?=Wv (.lst [])
structure Fr(n m:Nat)(H H':PH):Prop where
 len:H'.length=H.length
 off: ∀ i,i < n\/n+7+3*m<=i->H'[i]?=H[i]?
theorem Fr.refl:Fr n m H H:=⟨rfl,λ_ _=>rfl⟩
theorem Fr.set(f:Fr n m H H')(h1:n<=i)(h2:i < n+7+3*m):Fr n m H (H'.set i o) :=
 ⟨by rw[Xa];exact f.len,λk hk=>by rw[aV (by omega)];exact f.off k hk⟩
theorem Rep.same(R:Rep H n P S ss)(e: ∀ i,n<=i->i < n+7+3*P.hs.length->H'[i]?=H[i]?):Rep H' n P S ss:=by
 refine⟨λi hi=>by rw[e _ (by omega) (by omega)];exact R.c i hi,λj x s ex es=>?_,λj hj=>by rw[e _ (by omega) (by omega)];exact R.g j hj⟩;obtain⟨D,hl,h1,h2,h3⟩:=R.p j x s ex es;have lj:=(WA.mp ex).1;exact⟨D,hl,by rw[e _ (by omega) (by omega)];exact h1,by rw[e _ (by omega) (by omega)];exact h2,h3⟩
theorem Rep.app(R:Rep H n P S ss) G:Rep (H++G) n P S ss:=by
 refine⟨λi hi=>(aw (aC (R.c i hi))).trans (R.c i hi),λj x s ex es=>?_,λj hj=>(aw (aC (R.g j hj))).trans (R.g j hj)⟩;obtain⟨D,hl,h1,h2,h3⟩:=R.p j x s ex es;exact⟨D,hl,(aw (aC h1)).trans h1,(aw (aC h2)).trans h2,h3⟩
theorem Rep.set(R:Rep H n P S ss)(hi:i < 7)(e: ∀ k,k < 7->k≠i->cell n S' k=cell n S k):Rep (H.set (n+i) (cell n S' i)) n P S' ss:=by
 refine⟨λk hk=>?_,λj x s ex es=>?_,λj hj=>by rw[aV (by omega)];exact R.g j hj⟩
 . by_cases z:k=i
   . subst z;exact kz (aC (R.c k hk))
   . rw[aV (by omega),e k hk z];exact R.c k hk
 . obtain⟨D,hl,h1,h2,h3⟩:=R.p j x s ex es;exact⟨D,hl,by rw[aV (by omega)];exact h1,by rw[aV (by omega)];exact h2,h3⟩
theorem Rep.put(R:Rep H n P S ss)(ex:P.hs[j]?=Wv x)(es:ss[j]?=Wv s)(hD:sE (LM x) D)(hf: ∀ y,fP D y=fP s'.ps y)(hh:s'.held=s.held):Rep (H.set (n+7+3*j) (.dct (fh D))) n P S (ss.set j s'):=by
 refine⟨λk hk=>by rw[aV (by omega)];exact R.c k hk,λi y t ey et=>?_,λi hi=>by rw[aV (by omega)];exact R.g i hi⟩;have lj:=(WA.mp es).1;by_cases z:j=i
 . subst z;rw[Xo lj] at et;rw[ex] at ey;cases et;cases ey;obtain⟨D0,hl,h1,h2,h3,h4,h5,h6⟩:=R.p j x s ex es;exact⟨D,hl,kz (aC h1),by rw[aV (by omega)];exact h2,hD,hf,h5,by rw[hh];exact h6⟩
 . rw[XS z] at et;obtain⟨D0,hl,h1,h2,h3⟩:=R.p i y t ey et;exact⟨D0,hl,by rw[aV (by omega)];exact h1,by rw[aV (by omega)];exact h2,h3⟩
theorem Rep.hold(R:Rep H n P S ss)(ex:P.hs[j]?=Wv x)(es:ss[j]?=Wv s){hl:List Str}(nd:hl.Nodup)(hm: ∀ y,y∈hl↔y∈s'.held)(hp:s'.ps=s.ps):Rep (H.set (n+9+3*j) (.lst (hl.map PV.str))) n P S (ss.set j s'):=by
 refine⟨λk hk=>by rw[aV (by omega)];exact R.c k hk,λi y t ey et=>?_,λi hi=>by rw[aV (by omega)];exact R.g i hi⟩;have lj:=(WA.mp es).1;by_cases z:j=i
 . subst z;rw[Xo lj] at et;rw[ex] at ey;cases et;cases ey;obtain⟨D0,hl0,h1,h2,h3,h4,h5,h6⟩:=R.p j x s ex es;exact⟨D0,hl,by rw[aV (by omega)];exact h1,kz (aC h2),h3,by rw[hp];exact h4,nd,hm⟩
 . rw[XS z] at et;obtain⟨D0,hl0,h1,h2,h3⟩:=R.p i y t ey et;exact⟨D0,hl0,by rw[aV (by omega)];exact h1,by rw[aV (by omega)];exact h2,h3⟩
def Hc:Option Rw->PV
 | none=> .non
 | some r=>bF r
structure Cells(H:PH)(n:Nat)(S:Wd):Prop where
 e0:H[n]?=Wv (.dct (sC n))
 e1:H[n+1]?=Wv (.lst (S.aZ.map PV.int))
 e2:H[n+2]?=Wv (.lst (sL n S.bT))
 e3:H[n+3]?=Wv (.lst (S.kK.map PV.int))
 e4:H[n+4]?=Wv (.lst (S.jc.map ib))
 e5:H[n+5]?=Wv (.lst (S.eJ.map fD))
 e6:H[n+6]?=Wv (.lst (S.cW.map fF))
theorem Rep.cells(R:Rep H n P S ss):Cells H n S :=
 ⟨R.c 0 (by decide),R.c 1 (by decide),R.c 2 (by decide),R.c 3 (by decide),R.c 4 (by decide),R.c 5 (by decide),R.c 6 (by decide)⟩
section
variable{pg:Tb}(T:bN pg)
include T
theorem kJ k (W:fI P N S) (C:Cells H n S) (hj:j < P.hs.length):run pg (k+1) "_law_row" [P.v,.ref n,.int j] H= .ok (Hc (rowAt P S j)) H:=by
 obtain⟨x,s,c,ex,es,ec,so⟩:=mH W hj;obtain⟨v1,v2,v3,v4,v5,v6⟩:=dJ n;have i4: ∀ g,aB P.v (.int 4) g= .ok (.tup (P.hs.map bz)) g:=λg=>uE;have ih: ∀ g,aB (.tup (P.hs.map bz)) (.int j) g= .ok (bz x) g:=λg=>kD (bG ex);have i1: ∀ g,aB (bz x) (.int 1) g= .ok (bJ x.2) g:=λg=>jf;have se:dZ (sL n S.bT) (j:Int)=Wv (Gf n j s):=P3.eW rfl (DP es);have s0: ∀ g,aB (Gf n j s) (.int 0) g= .ok (.int s.row) g:=λg=>qq;have ln: ∀ h,bV [bJ x.2] h= .ok (.int x.2.length) h:=λh=>by unfold bJ;rw[len_T,Wy]
 rw[run_eq T.yU rfl,fe ex es];cases e:x.2[s.row]? with
 | none =>
  have z: ¬ (s.row) < (x.2.length:Int):=by have:=X3.mp e;omega
  simp? [gE,ku,i4,ih,i1,C.e0,v2,C.e2,se,s0,ln,z,Hc]
 | some r =>
  have z:(s.row) < (x.2.length:Int):=by have:=(WA.mp e).1;omega
  have ix: ∀ h,aB (bJ x.2) (.int s.row) h= .ok (bF r) h:=λh=>kD (iu e)
  simp? [gE,ku,i4,ih,i1,C.e0,v2,C.e2,se,s0,ln,z,ix,Hc]
theorem vz k (ok:P.Ok) (W:fI P N S) (C:Cells H n S) (hj:j < P.hs.length):run pg (k+2) "_law_wait" [P.v,.ref n,.int j] H= .ok (cT P S j) H:=by
 have ro:=kJ T k W C hj;obtain⟨x,s,c,ex,es,ec,so⟩:=mH W hj;obtain⟨v1,v2,v3,v4,v5,v6⟩:=dJ n;have j1: ∀ g,aB P.v (.int 1) g= .ok (.tup (P.s1.map PV.str)) g:=λg=>jf;have j2: ∀ g,aB P.v (.int 2) g= .ok (.tup (P.s2.map PV.str)) g:=λg=>vI;unfold cT;rw[fe ex es] at ro ⊢;rw[run_eq T.wm rfl];cases e:x.2[s.row]? with
 | none =>
  rw[e] at ro
  simp? [cj,cJ,ro,Hc,kj]
 | some r =>
  rw[e] at ro
  have mr:=WL e
  rcases xf r with⟨l,rfl⟩ | ⟨y,l,rfl⟩ | ⟨n1,n2,n3⟩
  . have m:l∈P.s1:=bL ok ex mr (k:=1) (t:=l) rfl;obtain⟨z,ez,mz⟩:=bp (l:=S.eJ) (ns:=P.s1) W.l1 m;have ez':S.eJ[(P.nm 1).idxOf l]?=Wv z:=ez;have at_:=bG (f:=fD) ez;obtain⟨zh,zm⟩:=z;simp only[kj,ez'];cases zh with
    | none=>simp? [cj,cJ,ro,Hc,bF,Rw.w,Rw.ps,C.e0,v5,C.e5,j1,mh,iL,iH m,at_,fD,Ku]
    | some i=>simp? [cj,cJ,ro,Hc,bF,Rw.w,Rw.ps,C.e0,v5,C.e5,j1,mh,iL,iH m,at_,fD,Ku]
  . have m:l∈P.s2:=bL ok ex mr (k:=2) (t:=l) rfl;obtain⟨z,ez,mz⟩:=bp (l:=S.cW) (ns:=P.s2) W.l2 m;have ez':S.cW[(P.nm 2).idxOf l]?=Wv z:=ez;have at_:=bG (f:=fF) ez;obtain⟨a,b,ls⟩:=z;simp only[kj,ez'];cases ls with
    | nil =>
     have q:=oY (ls:=[]) (h:=H)
     rw[Xc] at q
     simp? [cj,cJ,ro,Hc,bF,Rw.w,Rw.ps,C.e0,v6,C.e6,j2,mh,iL,iH m,at_,fF,q]
    | cons i r =>
     have q:=oY (ls:=i::r) (h:=H)
     have ne:decide (i::r=[])=false:=rfl
     rw[ne,WH] at q
     simp? [cj,cJ,ro,Hc,bF,Rw.w,Rw.ps,C.e0,v6,C.e6,j2,mh,iL,iH m,at_,fF,q]
  . have r0:=λg=>rw_0 r g;have rn: ∀ g,gA false (bF r) g= .ok (.bl false) g:=λg=>KZ;rw[n3];simp? [cj,cJ,ro,Hc,rn,r0,n1,n2]
theorem pv k (ok:P.Ok) (W:fI P N S) (C:Cells H n S):run pg (k+3) "_law_can" [P.v,.ref n] H= .ok (.ref H.length) (H++[.lst ((fN P S).map cL)]):=by
 have hm:=ok.many;have i4: ∀ g,aB P.v (.int 4) g= .ok (.tup (P.hs.map bz)) g:=λg=>uE;have tn:ace ((P.hs.length:Nat):Int)=P.hs.length:=XA _;have lc:gL ⟨Wx,aH 0 P.hs.length⟩ (aO 1 (gN 2) (aF (xR (gA false) (ag "_law_wait" (a3 (aa 0) (aa 1) (aa 2))))) (aa 2) (run pg (k+2)) [Wv P.v,Wv (.ref n)]) (aH 0 P.hs.length) [] H= .ok ((fN P S).map cL) H:=by
  refine(dW rfl (Xj P.hs.length) [] (f:=λj=>if decide (cT P S j= .non)=true then Wv (cL j) else Wx) (g:=λi:Nat=>PV.int (0+(i))) (λi m=>?_) (by simp;omega)).trans (by rw[nN];rfl);have iz:(0:Int)+(i:Int)=(i:Int):=abd _;have w:=vz T k ok W C (YR.mp m);by_cases z:cT P S i= .non
  . simp? [iz,w,z,cL]
  . simp? [iz,w,z,RC]
 rw[run_eq T.yW rfl];simp? [iT,px,i4,Wy,tn,lc];exact bh rfl
end
mutual
theorem EI(n:Nat): ∀ v:PV,v.flat=true->v.hX n=true
 | .tup xs,h=>by rw[PV.flat] at h;rw[PV.hX];exact fV n xs h
 | .ktup xs,h=>by rw[PV.flat] at h;rw[PV.hX];exact fV n xs h
 | .non,_=>rfl
 | .bl _,_=>rfl
 | .int _,_=>rfl
 | .str _,_=>rfl
 | .ty _,_=>rfl
 | .ref _,h=>nomatch h
theorem fV(n:Nat): ∀ xs:List PV,PV.bo xs=true->PV.iy n xs=true
 | [],_=>rfl
 | x::r,h=>by
  rw[PV.bo,WX] at h;rw[PV.iy,EI n x h.1,fV n r h.2];rfl
end
theorem ir{α :Type}{f}: ∀{l:List α},(∀ x∈l,(f x).flat=true)->PV.bo (l.map f)=true
 | [],_=>rfl
 | x::r,h=>by rw[WH,PV.bo,h x WW,ir λz m=>h z (WY _ m)];rfl
theorem FR n D:(PO.dct (fh D)).hX n=true:=by
 show PV.iy n ((fh D).map λkv=>kv.2)=true;unfold fh;rw[XB];exact fV n _ (ir (f:=(λkv:Key × PV=>kv.2) ∘ λq:Str × Int=>((.inr q.1),PV.int q.2)) λ_ _=>rfl)
theorem gD(e:h'.length=h.length):P3.settle h v h'= .ok v h':=by
 unfold P3.settle;split
 . rw [<- e,acb]
 . rfl
theorem zT{ g:PH}(l:n < h.length):(h++g).set n o=h.set n o++g:=acZ _ _ l
theorem DT(h:dR r=false): ¬ r.w∈(["clock", "lot", "hear"]:List Str):=by
 cases r<;>first | (simp only [Rw.w];decide +kernel) | cases h
theorem AX(hr:fk L n r)(h:dR r=true):(∃ x m,r= .lot x m∧2<=m∧m<=1000)∨(¬ r.w= "lot" /\ ∀ x m,¬ r= .lot x m):=by
 cases r with
 | lot x m=>exact .inl ⟨x,m,rfl,hr.2⟩
 | clock x=>exact .inr ⟨by simp only[Rw.w];decide +kernel,λ_ _ e=>by cases e⟩
 | hear x d=>exact .inr ⟨by simp only[Rw.w];decide +kernel,λ_ _ e=>by cases e⟩
 | _=>cases h
theorem GP(m0:2<=m)(a0:0<=a)(a1:a < m)(b0:0<=b)(b1:b < 2)(w0:0<=w)(w1:w < 4): ∃ v ,0<=v/\v < m/\dZ [PV.int 0,.int (m - 1),.int a,.int b] w=Wv (.int v):=by
 rcases(show w=0\/w=1\/w=2\/w=3 by omega) with rfl | rfl | rfl | rfl
 . exact⟨0,by omega,by omega,rR⟩
 . exact⟨m - 1,by omega,by omega,yc⟩
 . exact⟨a,a0,a1,yu⟩
 . exact⟨b,b0,by omega,Di⟩
section
variable{pg:Tb}(T:bN pg)
include T
theorem vL j fr q (hr:fk L n r): ∃ (g:PV) (q':Int × Int × Int),fE r g∧ ∀ G,run pg (j+2) "_law_gift" [.ref 1,bF r] (fr::bw q::G)= .ok g (fr::bw q'::G):=by
 have r0:=λg=>rw_0 r g;have nin: ∀(a:Str) h,kA (.str a) (.tup [.str "clock",.str "lot",.str "hear"]) h= .ok (.bl (!decide (a∈(["clock", "lot", "hear"]:List Str)))) h:=λa h=>zZ (ss:=["clock", "lot", "hear"]);cases hq:dR r with
 | false =>
  have ng:=DT hq
  refine⟨.non,q,⟨λe=>(by cases(hq.symm.trans e)),λ_=>rfl⟩,λG=>?_⟩
  rw[run_eq T.jx rfl]
  simp? [dy,gP,r0,nin,ng]
 | true =>
  obtain⟨m1,_⟩:=jO hq
  have fin_: ∀ m:Int,2<=m->m<=1000-> ∃(v:Int)(q':Int × Int × Int),0<=v/\v < m/\ ∀(G:PH)(e1:Option PV),∃ X:PH,(ay (aj aB (bD (ab (eI 0) (ab (aj rD (aa 2) (eI 1)) (ab (ag "_law_take" (a2 (aa 0) (aa 2))) (ab (ag "_law_take" (a2 (aa 0) (eI 2))) ah))))) (ag "_law_take" (a2 (aa 0) (eI 4))))) (run pg (j+1)) [Wv (.ref 1),e1,Wv (.int m)] (fr::bw q::G)= .ok (.rt (.int v)) (fr::bw q'::(G++X)):=λm m0 m9=>by
   obtain⟨a,q1,a0,a1,ea⟩:=cv T j fr q m (by omega) (by omega);obtain⟨b,q2,b0,b1,eb⟩:=cv T j fr q1 2 (by decide) (by decide);obtain⟨w,q3,w0,w1,ew⟩:=cv T j fr q2 4 (by decide) (by decide);obtain⟨v,v0,v1,ev⟩:=GP m0 a0 a1 b0 b1 w0 w1;refine⟨v,q3,v0,v1,λG e1=>⟨[.lst [.int 0,.int (m - 1),.int a,.int b]],?_⟩⟩;simp? [ea,eb,ew,ev]
  rcases AX hr hq with⟨x,m,rfl,m0,m9⟩ | ⟨nl,nl2⟩
  . obtain⟨v,q',v0,v1,fv⟩:=fin_ m m0 m9;refine⟨.int v,q',⟨λ_=>⟨v,rfl,v0,by omega,λx n e=>by cases e;exact v1⟩,λe=>(by cases e)⟩,λG=>?_⟩;obtain⟨X,fx⟩:=fv G (Wv (bF (.lot x m)));rw[run_eq T.jx rfl];simp only[bF,Rw.w,Rw.ps] at fx m1;simp? [dy,gP,bF,Rw.w,Rw.ps,nin,m1,↓fx];exact dN rfl
  . obtain⟨v,q',v0,v1,fv⟩:=fin_ 1000 (by decide) (by decide);refine⟨.int v,q',⟨λ_=>⟨v,rfl,v0,by omega,λx n e=>absurd e (nl2 x n)⟩,λe=>(by cases(hq.symm.trans e))⟩,λG=>?_⟩;obtain⟨X,fx⟩:=fv G (Wv (bF r));rw[run_eq T.jx rfl];simp? [dy,gP,r0,nin,m1,nl,↓fx];exact dN rfl
end
theorem vf(W:fI P N S)(m:b∈S.jc):(ib b).flat=true:=by
 simp[ib,PV.flat,PV.bo,((W.bx b m).2).flat]
theorem v8{c:CF}{E:aQ}{P:Pg}(ok:P.Ok){H:PH}{e1 e2 e3 e4 e5 e6 e7:Option PV}:gL ⟨Wx,P.bs.map d8⟩ (aO 1 (gN 8) aN (eX 8 0) c [Wv P.v,e1,e2,e3,e4,e5,e6,e7]) (P.bs.map d8) [] H= .ok ((P.nm 0).map PV.str) H:=by
 show _=RV.ok ((P.bs.map (·.1)).map PV.str) H
 have b20:=ok.bx.1;rw[XB];refine CS (l:=P.bs) (f:=PV.str ∘ λz:Str × Int=>z.1) (by omega) λx _=>?_;rfl
section
variable{pg:Tb}(T:bN pg)
include T
theorem Cs k (ok:P.Ok) (W:fI P N S) (C:Cells H n S) (hL:L.length<=20) (ed:H[d]?=Wv (.dct (fh D))) (hD:sE L D) (m:b∈P.nm 0) (ez:S.jc[(P.nm 0).idxOf b]?=Wv z) ev:run pg (k+1) "_law_boxed" [P.v,.ref n,bF (.get y b),ev,.ref d] H= .ok (.tup [.str "get",.str b,.int z.1,z.2]) (H.set d (.dct (fh (putD D y z.1)))):=by
 obtain⟨v1,v2,v3,v4,v5,v6⟩:=dJ n;have i0: ∀ g,aB P.v (.int 0) g= .ok (.tup (P.bs.map d8)) g:=λg=>qq;have old: ∀{i:Nat}{o:PO}(X:PH),H[i]?=Wv o->(H++X)[i]?=Wv o:=λX e=>(aw (aC e)).trans e;have c0:=old [.lst ((P.nm 0).map PV.str)] C.e0;have c4:=old [.lst ((P.nm 0).map PV.str)] C.e4;have cd:=old [.lst ((P.nm 0).map PV.str)] ed;have ix:=t7 (h:=H++[.lst ((P.nm 0).map PV.str)]) (n:=H.length) aR m;have at_:=bG (f:=ib) ez;have zf:=vf W (WL ez);have ld:=aC ed;rw[run_eq T.lP rfl];simp? (disch:=first | assumption | omega) only[dP,iM,bF,Rw.ps,i0,v8 (E:=[]) ok,C.e0,v4,c4,cd,ix,at_,ib,k4 (oU hL hD),jV,zT];refine ky ?_ ed rfl (FR _ _);exact zf
theorem Bp k (ok:P.Ok) (W:fI P N S) (C:Cells H n S) (ed:H[d]?=Wv (.dct (fh D))) (hD:sE L D) (he:jo e) (m:b∈P.nm 0) (ez:S.jc[(P.nm 0).idxOf b]?=Wv z) (evf:ev.flat=true):run pg (k+9) "_law_boxed" [P.v,.ref n,bF (.put b e),ev,.ref d] H= .ok (.tup [.str "put",.str b,.int (e.val (fP D)),z.2]) (H.set (n+4) (.lst ((S.jc.set ((P.nm 0).idxOf b) (e.val (fP D),ev)).map ib))):=by
 obtain⟨v1,v2,v3,v4,v5,v6⟩:=dJ n;have i0: ∀ g,aB P.v (.int 0) g= .ok (.tup (P.bs.map d8)) g:=λg=>qq;have old: ∀{i:Nat}{o:PO}(X:PH),H[i]?=Wv o->(H++X)[i]?=Wv o:=λX e=>(aw (aC e)).trans e;have c0:=old [.lst ((P.nm 0).map PV.str)] C.e0;have c4:=old [.lst ((P.nm 0).map PV.str)] C.e4;have cd:=old [.lst ((P.nm 0).map PV.str)] ed;have ix:=t7 (h:=H++[.lst ((P.nm 0).map PV.str)]) (n:=H.length) aR m;have at_:=bG (f:=ib) ez;have zf:=vf W (WL ez);have ld:=aC C.e4;have lk:=(WA.mp ez).1;have w:=qR T hD.vF e (k+7) _ cd he.1 (by have:=he.2;omega)
 let B:=S.jc.set ((P.nm 0).idxOf b) (e.val (fP D),ev)
 have at2:dZ (B.map ib) ((P.nm 0).idxOf b:Int)=Wv (ib (e.val (fP D),ev)):=bG (Xo lk);have bB:(S.jc.map ib).set ((P.nm 0).idxOf b) (.tup [.int (e.val (fP D)),ev])=B.map ib:=bM ib S.jc _ (e.val (fP D),ev);have pl:=λh v=>kc (h:=h) (n:=n+4) (xs:=S.jc.map ib) (v:=v) (i:=((P.nm 0).idxOf b)) rfl (by rw[Wy];exact lk);rw[run_eq T.lP rfl];have o0: ∀ o:PO,(H.set (n+4) o++[.lst ((P.nm 0).map PV.str)])[n]?=Wv (.dct (sC n)):=λo=>by rw[aw (by rw[Xa];exact aC C.e0),aV (by omega)];exact C.e0
 have o4: ∀ o:PO,(H.set (n+4) o++[.lst ((P.nm 0).map PV.str)])[n+4]?=Wv o:=λo=>by rw[aw (by rw[Xa];exact ld)];exact kz ld
 have uf:(PO.lst (B.map ib)).hX H.length=true:=fV _ _ (ir λq mq=>by
  rcases XG mq with mq | rfl
  . exact vf W mq
  . simp[ib,PV.flat,PV.bo,evf])
 show _=RV.ok _ (H.set (n+4) (.lst (B.map ib)))
 clear_value B
 simp only[ib] at at2 at_ zf;simp? (disch:=first | assumption | omega) only[dP,iM,bF,Rw.w,Rw.ps,i0,v8 (E:=[]) ok,c0,v4,c4,ix,at_,w,pl,bB,zT,o0,o4,at2];refine ky ?_ C.e4 rfl uf;exact zf
theorem wC k {P:Pg} (C:Cells H n S) (eh:H[d]?=Wv (.lst (hl.map PV.str))) (hd:n+6 < d) (hh:hl.length<=1000) (m:l∈P.s1) (ez:S.eJ[P.s1.idxOf l]?=Wv z) j c:run pg (k+1) "_law_locked" [P.v,.ref n,bF (.take l),jI j c,.ref d] H= .ok (.tup [.str "take",.str l,.non,z.2]) ((H.set (n+5) (.lst ((S.eJ.set (P.s1.idxOf l) (Wv (j),z.2)).map fD))).set d (.lst ((hl++[l]).map PV.str))):=by
 obtain⟨v1,v2,v3,v4,v5,v6⟩:=dJ n;have j1: ∀ g,aB P.v (.int 1) g= .ok (.tup (P.s1.map PV.str)) g:=λg=>jf;have at_:=bG (f:=fD) ez;have lk:=(WA.mp ez).1
 let B:=S.eJ.set (P.s1.idxOf l) (Wv (j),z.2)
 have bB:(S.eJ.map fD).set (P.s1.idxOf l) (.tup [.int (j:Int),z.2])=B.map fD:=bM fD S.eJ _ (Wv (j),z.2);have pl:=λh v=>kc (h:=h) (n:=n+5) (xs:=S.eJ.map fD) (v:=v) (i:=(P.s1.idxOf l)) rfl (by rw[Wy];exact lk);have od: ∀ o:PO,(H.set (n+5) o)[d]?=Wv (.lst (hl.map PV.str)):=λo=>by rw[aV (by omega)];exact eh
 have hz:(hl.map PV.str).length < 16777216:=by rw[Wy];omega
 show _=RV.ok _ ((H.set (n+5) (.lst (B.map fD))).set d (.lst ((hl++[l]).map PV.str)));rw[Xl,run_eq T.km rfl];simp only[fD] at at_;simp? (disch:=first | assumption | omega) only[c9,hI,bF,Rw.w,Rw.ps,jI,j1,mh,iL,iH m,C.e0,v5,C.e5,at_,pl,bB,od];exact gD (by rw[Xa,Xa])
theorem wu k {P:Pg} (C:Cells H n S) (eh:H[d]?=Wv (.lst (hl.map PV.str))) (hd:n+6 < d) (hm:l∈hl) (m:l∈P.s1) (ez:S.eJ[P.s1.idxOf l]?=Wv z) j c:run pg (k+1) "_law_locked" [P.v,.ref n,bF (.free l),jI j c,.ref d] H= .ok (.tup [.str "free",.str l,.non,.non]) ((H.set (n+5) (.lst ((S.eJ.set (P.s1.idxOf l) (Wx,jI j c)).map fD))).set d (.lst ((ur hl l).map PV.str))):=by
 obtain⟨v1,v2,v3,v4,v5,v6⟩:=dJ n;have j1: ∀ g,aB P.v (.int 1) g= .ok (.tup (P.s1.map PV.str)) g:=λg=>jf;have at_:=bG (f:=fD) ez;have lk:=(WA.mp ez).1
 let B:=S.eJ.set (P.s1.idxOf l) (Wx,jI j c)
 have bB:(S.eJ.map fD).set (P.s1.idxOf l) (.tup [.non,.tup [.int (j:Int),.int c]])=B.map fD:=bM fD S.eJ _ (Wx,jI j c);have pl:=λh v=>kc (h:=h) (n:=n+5) (xs:=S.eJ.map fD) (v:=v) (i:=(P.s1.idxOf l)) rfl (by rw[Wy];exact lk);have od: ∀ o:PO,(H.set (n+5) o)[d]?=Wv (.lst (hl.map PV.str)):=λo=>by rw[aV (by omega)];exact eh
 have rm:=λo=>U7 (h:=H.set (n+5) o) (n:=d) (od o) hm;show _=RV.ok _ ((H.set (n+5) (.lst (B.map fD))).set d (.lst ((ur hl l).map PV.str)));rw[run_eq T.km rfl];simp only[fD] at at_;simp? (disch:=first | assumption | omega) only[c9,hI,bF,Rw.w,Rw.ps,jI,j1,mh,iL,iH m,C.e0,v5,C.e5,at_,pl,bB,od,rm];exact gD (by rw[Xa,Xa])
theorem yM k {P:Pg} (C:Cells H n S) (ed:H[d]?=Wv (.dct (fh D))) (hD:sE L D) (he:jo e) (m:l∈P.s2) (ez:S.cW[P.s2.idxOf l]?=Wv z) (hz:z.2.2.length<=1000):run pg (k+9) "_law_laned" [P.v,.ref n,bF (.send l e),.ref d] H= .ok (.tup [.str "send",.str l,.int (e.val (fP D)),.int z.1]) (H.set (n+6) (.lst ((S.cW.set (P.s2.idxOf l) (z.1+1,z.2.1,z.2.2++[e.val (fP D)])).map fF))):=by
 obtain⟨v1,v2,v3,v4,v5,v6⟩:=dJ n;have j2: ∀ g,aB P.v (.int 2) g= .ok (.tup (P.s2.map PV.str)) g:=λg=>vI;have at_:=bG (f:=fF) ez;have lk:=(WA.mp ez).1;have w:=qR T hD.vF e (k+7) _ ed he.1 (by have:=he.2;omega)
 let B:=S.cW.set (P.s2.idxOf l) (z.1+1,z.2.1,z.2.2++[e.val (fP D)])
 have bB:(S.cW.map fF).set (P.s2.idxOf l) (.tup [.int (z.1+1),.int z.2.1,.tup ((z.2.2++[e.val (fP D)]).map PV.int)])=B.map fF:=bM fF S.cW _ (z.1+1,z.2.1,z.2.2++[e.val (fP D)]);have pl:=λh v=>kc (h:=h) (n:=n+6) (xs:=S.cW.map fF) (v:=v) (i:=(P.s2.idxOf l)) rfl (by rw[Wy];exact lk);have ad: ∀ g,aU (.tup (z.2.2.map PV.int)) (.tup [.int (e.val (fP D))]) g= .ok (.tup ((z.2.2++[e.val (fP D)]).map PV.int)) g:=λg=>by
  rw[lA (by simp only[Wy,WE,Xf];omega),Xl];rfl
 show _=RV.ok _ (H.set (n+6) (.lst (B.map fF)));rw[run_eq T.lB rfl];simp only[fF] at at_;simp? (disch:=first | assumption | omega) only[dQ,iV,bF,Rw.ps,j2,mh,iL,iH m,C.e0,v6,C.e6,at_,w,↓ad,pl,bB];exact gD (by rw[Xa])
theorem vM k {P:Pg} (C:Cells H n S) (ed:H[d]?=Wv (.dct (fh D))) (hd:n+6 < d) (hL:L.length<=20) (hD:sE L D) (m:l∈P.s2) (ez:S.cW[P.s2.idxOf l]?=Wv (a,b,i::ls)):run pg (k+1) "_law_laned" [P.v,.ref n,bF (.fetch y l),.ref d] H= .ok (.tup [.str "fetch",.str l,.int i,.int b]) ((H.set (n+6) (.lst ((S.cW.set (P.s2.idxOf l) (a,b+1,ls)).map fF))).set d (.dct (fh (putD D y i)))):=by
 obtain⟨v1,v2,v3,v4,v5,v6⟩:=dJ n;have j2: ∀ g,aB P.v (.int 2) g= .ok (.tup (P.s2.map PV.str)) g:=λg=>vI;have at_:=bG (f:=fF) ez;have lk:=(WA.mp ez).1
 let B:=S.cW.set (P.s2.idxOf l) (a,b+1,ls)
 have bB:(S.cW.map fF).set (P.s2.idxOf l) (.tup [.int a,.int (b+1),.tup (ls.map PV.int)])=B.map fF:=bM fF S.cW _ (a,b+1,ls);have pl:=λh v=>kc (h:=h) (n:=n+6) (xs:=S.cW.map fF) (v:=v) (i:=(P.s2.idxOf l)) rfl (by rw[Wy];exact lk);have od: ∀ o:PO,(H.set (n+6) o)[d]?=Wv (.dct (fh D)):=λo=>by rw[aV (by omega)];exact ed
 show _=RV.ok _ ((H.set (n+6) (.lst (B.map fF))).set d (.dct (fh (putD D y i))));rw[run_eq T.lB rfl];simp only[fF] at at_;simp? (disch:=first | assumption | omega) only[dQ,iV,bF,Rw.ps,j2,mh,iL,iH m,C.e0,v6,C.e6,at_,pj,pl,bB,od,k4 (oU hL hD),jV];exact gD (by rw[Xa,Xa])
end
theorem A9 s v r:(after s v r).row=s.row+1:=by cases r<;>rfl
theorem vH(hs:dw L rs s)(e:rs[s.row]?=Wv r)(hr:fk L rs.length r)(hv: ∀ x,r.gc=Wv x-> ∃ i ,v= .int i/\0<=i/\i<=999):dw L rs (after s v r):=by
 have hlt:=(WA.mp e).1;rcases rw_cls r with⟨x,hx⟩ | ⟨l,rfl⟩ | ⟨l,rfl⟩ | ⟨_,af⟩
 . obtain⟨i,rfl,h0,h9⟩:=hv x hx;rw[jK hx];exact⟨yA hs.pk (hr.pk hx) h0 h9,hlt⟩
 . exact⟨hs.pk,hlt⟩
 . exact⟨hs.pk,hlt⟩
 . rw[af];exact⟨hs.pk,hlt⟩
theorem qV(ex:P.hs[j]?=Wv x)(es:S.bT[j]?=Wv s)(er:x.2[s.row]?=Wv (.fetch y l))(hw:cT P S j= .non)(ez:S.cW[(P.nm 2).idxOf l]?=Wv z): ∃ a b i ls,z=(a,b,i::ls):=by
 obtain⟨za,zb,zl⟩:=z;cases zl with
 | cons i ls=>exact⟨za,zb,i,ls,rfl⟩
 | nil =>
  unfold cT at hw
  rw[fe ex es,er] at hw
  simp only[kj,ez] at hw
  nomatch hw
theorem uN(W:fI P N S):S.jc.length=(P.nm 0).length:=by rw[W.l0];exact(Wy ..).symm
theorem xO(ok:P.Ok)(W:fI P N S)(ex:P.hs[j]?=Wv x)(es:S.bT[j]?=Wv s)(er:x.2[s.row]?=Wv r)(hw:cT P S j= .non)(hg:fE r g): ∀ y,r.gc=Wv y-> ∃ i ,(met P S j c s g r).2.1= .int i/\0<=i/\i<=999:=by
 have mr:=WL er;have gi:dR r=true-> ∃ i:Int,(met P S j c s g r).2.1= .int i/\0<=i/\i<=999:=λhq=>by
  obtain⟨i,rfl,h0,h9,_⟩:=hg.1 hq;rw[(jO hq).2.2];exact⟨i,rfl,h0,h9⟩
 intro y hy;cases r with
 | get y' b =>
  obtain⟨z,ez,mz⟩:=bp (uN W) (bL ok ex mr (k:=0) (t:=b) rfl)
  exact⟨z.1,by simp only[met,ez,W9],(W.bx z mz).1⟩
 | fetch y' l =>
  obtain⟨z,ez,mz⟩:=bp (l:=S.cW) (ns:=P.nm 2) W.l2 (bL ok ex mr (k:=2) (t:=l) rfl)
  obtain⟨a,b,i,ls,rfl⟩:=qV ex es er hw ez
  exact⟨i,by simp only[met,ez,W9,aa4],(W.ln _ mz).2.2.2 i WW⟩
 | clock _=>exact gi rfl
 | lot _ _=>exact gi rfl
 | hear _ _=>exact gi rfl
 | _=>cases hy
theorem Rep.LD(R:Rep H n P S ss)(es:ss[j]?=Wv s)(hp:s'.ps=s.ps)(hh:s'.held=s.held):Rep H n P S (ss.set j s'):=by
 refine⟨R.c,λi y t ey et=>?_,R.g⟩;have lj:=(WA.mp es).1;by_cases z:j=i
 . subst z;rw[Xo lj] at et;cases et;obtain⟨D,hl,h1,h2,h3,h4,h5,h6⟩:=R.p j y s ey es;exact⟨D,hl,h1,h2,h3,by rw[hp];exact h4,h5,by rw[hh];exact h6⟩
 . rw[XS z] at et;exact R.p i y t ey et
theorem DQ(nd:hl.Nodup) a y:y∈ur hl a↔y∈hl/\y≠a:=by
 unfold ur;rw[<- List.erase_eq_eraseIdx_of_idxOf rfl,nd.mem_erase_iff];exact And.comm
theorem IU(nd:hl.Nodup) a:(ur hl a).Nodup:=by
 exact nd.sublist (List.eraseIdx_sublist ..)
def CO:=(bW (aF (aj jw (eX 7 0) (aq (a2 (eS "get") (eS "put"))))) (ai (ag "_law_boxed" (ab (aa 0) (ab (aa 1) (a3 (aa 7) (aa 8) (aa 5))))) (gN 9)) (bW (aF (aj jw (eX 7 0) (aq (a2 (eS "take") (eS "free"))))) (ai (ag "_law_locked" (ab (aa 0) (ab (aa 1) (a3 (aa 7) (aa 8) (aa 6))))) (gN 9)) (bW (aF (aj jw (eX 7 0) (aq (a2 (eS "send") (eS "fetch"))))) (ai (ag "_law_laned" (ab (aa 0) (a3 (aa 1) (aa 7) (aa 5)))) (gN 9)) (bW (mQ (eX 7 0) (eS "say")) (ae (ai (Jp (eX 0 3) (a1 (eX 7 1))) (gN 10))
  (ae (ai (aq (ab (eS "say") (ab (eX 7 1) (ab (ag "_law_worth" (a2 (eX 7 2) (aa 5))) (ab (aj aB (aj aB (aa 1) (eS "doors")) (aa 10)) ah))))) (gN 9))
  (fQ dM (aj aB (aa 1) (eS "doors")) (aa 10) (aj aU (aj aB (aj aB (aa 1) (eS "doors")) (aa 10)) (eI 1))))) (ae (fQ dM (aa 5) (eX 7 1) (aa 3))
  (ai (aq (ab (eX 7 0) (ab (vt (mQ (eX 7 0) (eS "hear")) (eX 7 2) (eS "")) (a2 (aa 3) (eC .non))))) (gN 9)))))))
theorem Gi a b c h:jw (.str a) (.tup [.str b,.str c]) h= .ok (.bl (decide (a=b\/a=c))) h:=by
 have:=yr (a:=a) (ss:=[b,c]) (h:=h);simpa using this
section
variable{pg:Tb}(T:bN pg)
include T
theorem LH k (ok:P.Ok) (W:fI P N S) (N9:N<=60) (R:Rep H n P S S.bT) (ex:P.hs[j]?=Wv x) (es:S.bT[j]?=Wv s) (ec:S.aZ[j]?=Wv c) (er:x.2[s.row]?=Wv r) (hw:cT P S j= .non) (hg:fE r g) e4 :
  ∃(H1:PH)(f10:Option PV),Fr n P.hs.length H H1/\Rep H1 n P (met P S j c s g r).1 (S.bT.set j (after s (met P S j c s g r).2.1 r)) /\
   CO (run pg (k+10)) [Wv P.v,Wv (.ref n),Wv (.int j),Wv g,e4,Wv (.ref (n+7+3*j)),Wv (.ref (n+9+3*j)),Wv (bF r),Wv (jI j c),Wx,Wx] H= .ok (.nx [Wv P.v,Wv (.ref n),Wv (.int j),Wv g,e4,Wv (.ref (n+7+3*j)),Wv (.ref (n+9+3*j)),Wv (bF r),Wv (jI j c),Wv (c7 r (met P S j c s g r).2.1 (met P S j c s g r).2.2),f10]) H1:=by
 have so:=W.se j x s ex es;have mr:=WL er;have C:=R.cells;have lj:=(WA.mp ex).1;obtain⟨l1,l2,l3⟩:=fz (ok.hd x (WL ex));obtain⟨D,hl,p1,p2,p3,p4,p5,p6⟩:=R.p j x s ex es;have hr:=l3 r mr;have hv:=xO ok W (c:=c) ex es er hw hg;have ow:=(jL so.re er).1;have cl:=(jL so.re er).2;obtain⟨v1,v2,v3,v4,v5,v6⟩:=dJ n;have ff:=funext p4;have ld:=aC p1;have ll:=aC p2;have hl9:=oU (by omega) p3;have gi:dR r=true-> ∀ y,r.gc=Wv y->(∀ h,aB (bF r) (.int 1) h= .ok (.str y) h)-> ∃(H1:PH),Fr n P.hs.length H H1/\Rep H1 n P (met P S j c s g r).1 (S.bT.set j (after s (met P S j c s g r).2.1 r))/\ ∃ i:Int,g= .int i/\H1=H.set (n+7+3*j) (.dct (fh (putD D y i))):=λhq y hy _=>by
  obtain⟨i,rfl,h0,h9,_⟩:=hg.1 hq;refine⟨_,Fr.refl.set (by omega) (by omega),?_,i,rfl,rfl⟩;rw[(jO hq).2.2];exact R.put ex es (o6 p3 (hr.pk hy) h0 h9) (λz=>by rw[jK hy,oV,p4];exact(uK so.so.pk.nd y i z).symm) (by rw[jK hy])
 cases r with
 | get y b =>
  have m:=bL ok ex mr (k:=0) (t:=b) rfl
  obtain⟨z,ez,mz⟩:=bp (uN W) m
  have hz:=(W.bx z mz).1
  have st:=Cs T (k+9) ok W C (by omega) p1 p3 (y:=y) m ez (jI j c)
  refine⟨_,Wx,Fr.refl.set (i:=n+7+3*j) (o:= .dct (fh (putD D y z.1))) (by omega) (by omega),?_,?_⟩
  . simp only[met,ez,W9];exact R.put ex es (o6 p3 hr hz.1 hz.2) (λq=>by rw[oV,p4];exact(uK so.so.pk.nd y z.1 q).symm) rfl
  . simp only[bF,Rw.w,Rw.ps] at st;simp? [CO,bF,Rw.w,Rw.ps,Gi,st,met,ez,W9,c7,Rw.tg,Rw.th,true_or,or_true,or_false,false_or]
 | put b e =>
  have m:=bL ok ex mr (k:=0) (t:=b) rfl
  obtain⟨z,ez,mz⟩:=bp (uN W) m
  have st:=Bp T (k+1) ok W C p1 p3 hr m ez (ev:=jI j c) rfl
  rw[ff] at st
  refine⟨_,Wx,Fr.refl.set (i:=n+4) (o:= .lst ((S.jc.set ((P.nm 0).idxOf b) (e.val (fP s.ps),jI j c)).map ib)) (by omega) (by omega),?_,?_⟩
  . refine Rep.LD (s:=s) ?_ es rfl rfl;exact R.set (i:=4) (S':={ S with jc:=S.jc.set ((P.nm 0).idxOf b) (e.val (fP s.ps),jI j c)}) (by decide) (by rintro (_ | _ | _ | _ | _ | _ | _ | _) a b<;>first | rfl | omega)
  . simp only[bF,Rw.w,Rw.ps] at st;simp? [CO,bF,Rw.w,Rw.ps,Gi,st,met,ez,W9,c7,Rw.tg,Rw.th,true_or,or_true,or_false,false_or]
 | take l =>
  have m:=bL ok ex mr (k:=1) (t:=l) rfl
  obtain⟨z,ez,mz⟩:=bp (l:=S.eJ) (ns:=P.s1) W.l1 m
  have ez':S.eJ[(P.nm 1).idxOf l]?=Wv z:=ez
  have nl:l ∉ s.held:=by simpa [own] using ow
  have hh:hl.length<=1000:=by
   have:=Zo p5 (l₂ :=s.held) λy hy=>(p6 y).mp hy;have:=so.le;omega
  have st:=wC T (k+9) (P:=P) C p2 (by omega) hh m ez j c
  refine⟨_,Wx,(Fr.refl.set (i:=n+5) (o:= .lst ((S.eJ.set (P.s1.idxOf l) (Wv (j),z.2)).map fD)) (by omega) (by omega)).set (i:=n+9+3*j) (o:= .lst ((hl++[l]).map PV.str)) (by omega) (by omega),?_,?_⟩
  . simp only[met,ez',W9];refine(R.set (i:=5) (S':={ S with eJ:=S.eJ.set (P.s1.idxOf l) (Wv (j),z.2)}) (by decide) (by rintro (_ | _ | _ | _ | _ | _ | _ | _) a b<;>first | rfl | omega)).hold ex es ?_ (λy=>?_) rfl
    . exact ZM.mpr ⟨p5,by simp,λa ha b hb e=>nl (by rw[<- Xq.mp hb,<- e];exact(p6 a).mp ha)⟩
    . show y∈hl++[l]↔y∈d9 (s.held++[l]);rw[(gx _).mem_iff,XJ,XJ,p6]
  . simp only[bF,Rw.w,Rw.ps] at st;simp? [CO,bF,Rw.w,Rw.ps,Gi,st,met,ez',W9,c7,Rw.tg,Rw.th,true_or,or_true,or_false,false_or]
 | free l =>
  have m:=bL ok ex mr (k:=1) (t:=l) rfl
  obtain⟨z,ez,mz⟩:=bp (l:=S.eJ) (ns:=P.s1) W.l1 m
  have ih:l∈s.held:=by simpa [own] using ow
  have st:=wu T (k+9) (P:=P) C p2 (by omega) ((p6 l).mpr ih) m ez j c
  refine⟨_,Wx,(Fr.refl.set (i:=n+5) (o:= .lst ((S.eJ.set (P.s1.idxOf l) (Wx,jI j c)).map fD)) (by omega) (by omega)).set (i:=n+9+3*j) (o:= .lst ((ur hl l).map PV.str)) (by omega) (by omega),?_,?_⟩
  . refine(R.set (i:=5) (S':={ S with eJ:=S.eJ.set (P.s1.idxOf l) (Wx,jI j c)}) (by decide) (by rintro (_ | _ | _ | _ | _ | _ | _ | _) a b<;>first | rfl | omega)).hold ex es (IU p5 l) (λy=>?_) rfl;rw[DQ p5,p6];show _↔y∈s.held.filter λz=> !decide (z=l);rw[YG];simp
  . simp only[bF,Rw.w,Rw.ps] at st;simp? [CO,bF,Rw.w,Rw.ps,Gi,st,met,c7,Rw.tg,Rw.th,true_or,or_true,or_false,false_or]
 | send l e =>
  have m:=bL ok ex mr (k:=2) (t:=l) rfl
  obtain⟨z,ez,mz⟩:=bp (l:=S.cW) (ns:=P.s2) W.l2 m
  have ez':S.cW[(P.nm 2).idxOf l]?=Wv z:=ez
  have hz:=(W.ln z mz).2.2.1
  have st:=yM T (k+1) (P:=P) C p1 p3 hr m ez (by omega)
  rw[ff] at st
  refine⟨_,Wx,Fr.refl.set (i:=n+6) (o:= .lst ((S.cW.set (P.s2.idxOf l) (z.1+1,z.2.1,z.2.2++[e.val (fP s.ps)])).map fF)) (by omega) (by omega),?_,?_⟩
  . simp only[met,ez',W9];refine Rep.LD (s:=s) ?_ es rfl rfl;exact R.set (i:=6) (S':={ S with cW:=S.cW.set (P.s2.idxOf l) (z.1+1,z.2.1,z.2.2++[e.val (fP s.ps)])}) (by decide) (by rintro (_ | _ | _ | _ | _ | _ | _ | _) a b<;>first | rfl | omega)
  . simp only[bF,Rw.w,Rw.ps] at st;simp? [CO,bF,Rw.w,Rw.ps,Gi,st,met,ez',W9,c7,Rw.tg,Rw.th,true_or,or_true,or_false,false_or]
 | fetch y l =>
  have m:=bL ok ex mr (k:=2) (t:=l) rfl
  obtain⟨z,ez,mz⟩:=bp (l:=S.cW) (ns:=P.s2) W.l2 m
  obtain⟨a,b,i,ls,rfl⟩:=qV ex es er hw (z:=z) ez
  have ez':S.cW[(P.nm 2).idxOf l]?=Wv (a,b,i::ls):=ez
  have hi:=(W.ln _ mz).2.2.2 i WW
  have st:=vM T (k+9) (P:=P) C p1 (by omega) (by omega) p3 (y:=y) m ez
  refine⟨_,Wx,(Fr.refl.set (i:=n+6) (o:= .lst ((S.cW.set (P.s2.idxOf l) (a,b+1,ls)).map fF)) (by omega) (by omega)).set (i:=n+7+3*j) (o:= .dct (fh (putD D y i))) (by omega) (by omega),?_,?_⟩
  . simp only[met,ez',W9,aez,aa4];refine(R.set (i:=6) (S':={ S with cW:=S.cW.set (P.s2.idxOf l) (a,b+1,ls)}) (by decide) (by rintro (_ | _ | _ | _ | _ | _ | _ | _) a b<;>first | rfl | omega)).put ex es (o6 p3 hr hi.1 hi.2) (λq=>?_) rfl;rw[oV,p4];exact(uK so.so.pk.nd y i q).symm
  . simp only[bF,Rw.w,Rw.ps] at st;simp? [CO,bF,Rw.w,Rw.ps,Gi,st,met,ez',W9,aa4,c7,Rw.tg,Rw.th,true_or,or_true,or_false,false_or]
 | say d e =>
  have m:d∈P.s3:=bL ok ex mr (k:=3) (t:=d) rfl
  obtain⟨z,ez,mz⟩:=bp (l:=S.kK) (ns:=P.s3) W.l3 m
  have ez':S.kK[(P.nm 3).idxOf d]?=Wv z:=ez
  have j3: ∀ g,aB P.v (.int 3) g= .ok (.tup (P.s3.map PV.str)) g:=λg=>Bc
  have at_:=bG (f:=PV.int) ez
  have lk:=(WA.mp ez).1
  have w:run pg (k+10) "_law_worth" [iF e,.ref (n+7+3*j)] H= .ok (.int (e.val (fP s.ps))) H:=by
   rw[<- ff];exact qR T p3.vF e (k+9) _ p1 hr.1 (by have:=hr.2;omega)
  have pl:=λh v=>kc (h:=h) (n:=n+3) (xs:=S.kK.map PV.int) (v:=v) (i:=(P.s3.idxOf d)) rfl (by rw[Wy];exact lk)
  have bB:(S.kK.map PV.int).set (P.s3.idxOf d) (.int (z+1))=(S.kK.set (P.s3.idxOf d) (z+1)).map PV.int:=bM PV.int S.kK _ (z+1)
  refine⟨_,Wv (.int (P.s3.idxOf d)),Fr.refl.set (i:=n+3) (o:= .lst ((S.kK.set (P.s3.idxOf d) (z+1)).map PV.int)) (by omega) (by omega),?_,?_⟩
  . simp only[met,ez',W9];refine Rep.LD (s:=s) ?_ es rfl rfl;exact R.set (i:=3) (S':={ S with kK:=S.kK.set (P.s3.idxOf d) (z+1)}) (by decide) (by rintro (_ | _ | _ | _ | _ | _ | _ | _) a b<;>first | rfl | omega)
  . simp? [CO,bF,Rw.w,Rw.ps,Gi,j3,mh,iL,iH m,w,C.e0,v3,C.e3,at_,pl,bB,met,ez',W9,c7,Rw.tg,Rw.th,true_or,or_true,or_false,false_or]
 | clock y =>
  obtain⟨H1,f,rp,i,rfl,rfl⟩:=gi rfl y rfl (λh=>jf)
  refine⟨_,Wx,f,rp,?_⟩
  simp? [CO,bF,Rw.w,Rw.ps,Gi,p1,k4 hl9,jV,met,c7,Rw.tg,Rw.th,true_or,or_true,or_false,false_or]
 | lot y q =>
  obtain⟨H1,f,rp,i,rfl,rfl⟩:=gi rfl y rfl (λh=>jf)
  refine⟨_,Wx,f,rp,?_⟩
  simp? [CO,bF,Rw.w,Rw.ps,Gi,p1,k4 hl9,jV,met,c7,Rw.tg,Rw.th,true_or,or_true,or_false,false_or]
 | hear y d =>
  obtain⟨H1,f,rp,i,rfl,rfl⟩:=gi rfl y rfl (λh=>jf)
  refine⟨_,Wx,f,rp,?_⟩
  simp? [CO,bF,Rw.w,Rw.ps,Gi,p1,k4 hl9,jV,met,c7,Rw.tg,Rw.th,true_or,or_true,or_false,false_or]
 | let_ _ _=>cases ow
 | leap _ _=>cases ow
end
section
variable{pg:Tb}(T:bN pg)
include T
theorem B4 k (ok:P.Ok) (W:fI P N S) (N9:N<=60) (R:Rep H n P S S.bT) (ex:P.hs[j]?=Wv x) (es:S.bT[j]?=Wv s) (ec:S.aZ[j]?=Wv c) (er:x.2[s.row]?=Wv r) (hw:cT P S j= .non) (hg:fE r g) :
  ∃ H1 ,Fr n P.hs.length H H1/\Rep H1 n P (gz P S j c x.2 s g r) (gz P S j c x.2 s g r).bT/\run pg (k+11) "_law_go" [P.v,.ref n,.int j,g] H= .ok (c7 r (met P S j c s g r).2.1 (met P S j c s g r).2.2) H1:=by
 have C:=R.cells;have lj:=(WA.mp ex).1;have so:=W.se j x s ex es;obtain⟨l1,l2,l3⟩:=fz (ok.hd x (WL ex));obtain⟨v1,v2,v3,v4,v5,v6⟩:=dJ n;obtain⟨H1,f10,F1,R1,A4⟩:=LH T k ok W N9 R ex es ec er hw hg (Wv (.int s.row));have hv:=xO ok W (c:=c) ex es er hw hg;have mc:(met P S j c s g r).1.aZ=S.aZ/\(met P S j c s g r).1.bT=S.bT:=by cases r<;>exact⟨rfl,rfl⟩
 let M:=(met P S j c s g r).1
 let v:=(met P S j c s g r).2.1
 let m:=(met P S j c s g r).2.2
 let t:=after s v r
 have lc:=(WA.mp ec).1;have ls:=(WA.mp es).1;have R2:=R1.set (i:=1) (S':={ M with aZ:=S.aZ.set j (c+1)}) (by decide) (by rintro (_ | _ | _ | _ | _ | _ | _ | _) a b<;>first | rfl | omega)
 let H2:=H1.set (n+1) (.lst ((S.aZ.set j (c+1)).map PV.int))
 have et:(S.bT.set j t)[j]?=Wv t:=Xo ls;have hs1:=vH so.so er (l3 r (WL er)) hv;obtain⟨D,hl,p1,p2,p3,p4,p5,p6⟩:=R2.p j x t ex et;obtain⟨D',d1,d2,d3⟩:=zV T k H2 (d:=n+7+3*j) (l:=n+9+3*j) (by omega) (by omega) l3 p1 p2 p6 hs1 p3 p4
 let t':=bu x.2 200 t
 have R3:Rep (H2.set (n+7+3*j) (.dct (fh D'))) n P { M with aZ:=S.aZ.set j (c+1)} ((S.bT.set j t).set j t'):=R2.put ex et d1 d2 (cK 200 t);rw[List.set_set] at R3
 let H3:=H2.set (n+7+3*j) (.dct (fh D'))
 have R4:=R3.set (i:=2) (S':={ M with aZ:=S.aZ.set j (c+1),bT:=S.bT.set j t'}) (by decide) (by rintro (_ | _ | _ | _ | _ | _ | _ | _) a b<;>first | rfl | omega);have Sw:gz P S j c x.2 s g r={ M with aZ:=S.aZ.set j (c+1),bT:=S.bT.set j t'}:=by
  show mK M j c t'=_;unfold mK;have e1:=mc.1;have e2:=mc.2;rw[e1,e2]
 refine⟨H3.set (n+2) (.lst (sL n (S.bT.set j t'))),((F1.set (by omega) (by omega)).set (by omega) (by omega)).set (by omega) (by omega),by rw[Sw];exact R4,?_⟩;have ro:=kJ T (k+9) W C lj;rw[fe ex es,er] at ro;have ro':run pg (k+10) "_law_row" [P.v,.ref n,.int j] H= .ok (bF r) H:=ro;have C1:=R1.cells;have C2:=R2.cells;have C3:=R3.cells;have se:dZ (sL n S.bT) (j:Int)=Wv (Gf n j s):=P3.eW rfl (DP es);have ac:dZ (S.aZ.map PV.int) (j:Int)=Wv (.int c):=bG ec;have i4: ∀ g,aB P.v (.int 4) g= .ok (.tup (P.hs.map bz)) g:=λg=>uE;have ih: ∀ g,aB (.tup (P.hs.map bz)) (.int j) g= .ok (bz x) g:=λg=>kD (bG ex);have i1: ∀ g,aB (bz x) (.int 1) g= .ok (bJ x.2) g:=λg=>jf;have up:((s.row)+1)=((t.row):Int):=by show _=(((after s v r).row):Int);rw[A9];omega
 have pc:=λh w=>kc (h:=h) (n:=n+1) (xs:=S.aZ.map PV.int) (v:=w) (i:=(j)) rfl (by rw[Wy];exact lc);have bc:=bM PV.int S.aZ j (c+1);have ps:=λh w=>kc (h:=h) (n:=n+2) (xs:=sL n S.bT) (v:=w) (i:=(j)) rfl (by rw[yC];exact ls);have bs:(sL n S.bT).set j (.tup [.int t'.row,.ref (n+7+3*j),.ref (n+9+3*j)])=sL n (S.bT.set j t'):=OI n j S.bT t';have c11:H1[n+1]?=Wv (.lst (S.aZ.map PV.int)):=by have:=C1.e1;rw[mc.1] at this;exact this
 have c32:H3[n+2]?=Wv (.lst (sL n S.bT)):=by
  have:=C3.e2;have e2:=mc.2;show _=Wv (PO.lst (sL n S.bT));rw[<- e2];exact this
 have c10:=C1.e0;have c30:H3[n]?=Wv (.dct (sC n)):=C3.e0;have d3':run pg (k+10) "_law_rest" [bJ x.2,.int t.row,.ref (n+7+3*j),.ref (n+9+3*j)] H2= .ok (.int t'.row) H3:=d3;have h2:H1.set (n+1) (.lst ((S.aZ.set j (c+1)).map PV.int))=H2:=rfl;have A:mZ (run pg (k+10)) [Wv P.v,Wv (.ref n),Wv (.int j),Wv g,Wx,Wx,Wx,Wx,Wx,Wx,Wx] H= .ok (.rt (c7 r v m)) (H3.set (n+2) (.lst (sL n (S.bT.set j t')))):=by
  show ae _ (ae _ (ae _ (ae CO (ae _ (ae _ _))))) _ _ _=_;refine(ba (e1:=[Wv P.v,Wv (.ref n),Wv (.int j),Wv g,Wv (.int s.row),Wv (.ref (n+7+3*j)),Wv (.ref (n+9+3*j)),Wx,Wx,Wx,Wx]) (h1:=H) ?_).trans ?_
  . simp? [C.e0,v2,C.e2,se,Gf]
  refine(ba (e1:=[Wv P.v,Wv (.ref n),Wv (.int j),Wv g,Wv (.int s.row),Wv (.ref (n+7+3*j)),Wv (.ref (n+9+3*j)),Wv (bF r),Wx,Wx,Wx]) (h1:=H) ?_).trans ?_
  . simp? [ro']
  refine(ba (e1:=[Wv P.v,Wv (.ref n),Wv (.int j),Wv g,Wv (.int s.row),Wv (.ref (n+7+3*j)),Wv (.ref (n+9+3*j)),Wv (bF r),Wv (jI j c),Wx,Wx]) (h1:=H) ?_).trans ?_
  . simp? [C.e0,v1,C.e1,ac,jI]
  refine(ba A4).trans ?_;refine(ba (e1:=[Wv P.v,Wv (.ref n),Wv (.int j),Wv g,Wv (.int s.row),Wv (.ref (n+7+3*j)),Wv (.ref (n+9+3*j)),Wv (bF r),Wv (jI j c),Wv (c7 r v m),f10]) (h1:=H2) ?_).trans ?_
  . simp? [c10,v1,c11,jI,pc,bc,h2];rfl
  clear_value H3 t t' v m
  clear_value H2
  simp? [i4,ih,i1,up,d3',c30,v2,c32,ps,bs]
 rw[run_eq T.Cu rfl];show fin _ (mZ (run pg (k+10)) [Wv P.v,Wv (.ref n),Wv (.int j),Wv g,Wx,Wx,Wx,Wx,Wx,Wx,Wx] H)=_;rw[A,jG];exact gD (by rw[Xa,Xa,Xa];exact F1.len)
end
theorem tW.up(h:tW N v):tW (N+1) v:=by
 rcases h with h | ⟨a,b,h,h1,h2,h3,h4⟩
 . exact .inl h
 . exact .inr ⟨a,b,h,h1,h2,h3,by omega⟩
theorem Rv.up(h:Rv P N x s):Rv P (N+1) x s:=⟨h.so,h.nd,by have:=h.le;omega,h.re,h.nm,h.sr⟩
theorem fI.up(W:fI P N S):fI P (N+1) S where
 lc:=W.lc
 ls:=W.ls
 l0:=W.l0
 l1:=W.l1
 l2:=W.l2
 l3:=W.l3
 ct c m:=by have:=W.ct c m;omega
 bx b m:=⟨(W.bx b m).1,(W.bx b m).2.up⟩
 lk l m:=⟨(W.lk l m).1,(W.lk l m).2.up⟩
 ln n m:=by have:=W.ln n m;exact⟨by omega,by omega,by omega,this.2.2.2⟩
 dr d m:=by have:=W.dr d m;omega
 se j x s e1 e2:=(W.se j x s e1 e2).up
theorem Lz(ok:P.Ok)(W:fI P N S)(ex:P.hs[j]?=Wv x)(es:S.bT[j]?=Wv s)(ec:S.aZ[j]?=Wv c)(er:x.2[s.row]?=Wv r)(hw:cT P S j= .non)(hg:fE r g):fI P (N+1) (met P S j c s g r).1:=by
 have mr:=WL er;have U:=W.up;have lj:=(WA.mp ex).1;have hm:=ok.many;have hc:=W.ct c (WL ec);have so:=W.se j x s ex es;obtain⟨l1,l2,l3⟩:=fz (ok.hd x (WL ex));have hr:=l3 r mr;have vF: ∀ e:Sm,jo e->0<=e.val (fP s.ps)/\e.val (fP s.ps)<=999:=λe he=>Sm.ny (xi λq m=>(so.so.pk.mem q m).2) e he.1;have mk:tW (N+1) (jI j c):= .inr ⟨j,c,rfl,by omega,by omega,by omega,by omega⟩;cases r with
 | get y b=>exact U
 | put b e=>exact{ U with
   l0:=by rw[<- U.l0];exact Xa
   bx:=λq m=>by
    rcases XG m with m | rfl
    . exact U.bx q m
    . exact⟨vF e hr,mk⟩}
 | take l =>
  obtain⟨z,ez,mz⟩:=bp (l:=S.eJ) (ns:=P.nm 1) W.l1 (bL ok ex mr (k:=1) (t:=l) rfl)
  simp only[met,ez,W9]
  exact{ U with
   l1:=by rw[<- U.l1];exact Xa
   lk:=λq m=>by
    rcases XG m with m | rfl
    . exact U.lk q m
    . exact⟨λi e=>by cases e;omega,(U.lk z mz).2⟩}
 | free l=>exact{ U with
   l1:=by rw[<- U.l1];exact Xa
   lk:=λq m=>by
    rcases XG m with m | rfl
    . exact U.lk q m
    . exact⟨λi e=>(by cases e),mk⟩}
 | send l e =>
  obtain⟨z,ez,mz⟩:=bp (l:=S.cW) (ns:=P.nm 2) W.l2 (bL ok ex mr (k:=2) (t:=l) rfl)
  have hz:=W.ln z mz
  simp only[met,ez,W9]
  exact{ U with
   l2:=by rw[<- U.l2];exact Xa
   ln:=λq m=>by
    rcases XG m with m | rfl
    . exact U.ln q m
    . refine⟨by show 0<=z.1+1/\z.1+1<=((N+1));omega,by show 0<=z.2.1/\z.2.1<=((N+1));omega,by have:=hz.2.2.1;simp;omega,λv mv=>?_⟩;rcases XJ.mp mv with mv | mv
      . exact hz.2.2.2 v mv
      . rw[Xq.mp mv];exact vF e hr}
 | fetch y l =>
  obtain⟨z,ez,mz⟩:=bp (l:=S.cW) (ns:=P.nm 2) W.l2 (bL ok ex mr (k:=2) (t:=l) rfl)
  have hz:=W.ln z mz
  simp only[met,ez,W9]
  exact{ U with
   l2:=by rw[<- U.l2];exact Xa
   ln:=λq m=>by
    rcases XG m with m | rfl
    . exact U.ln q m
    . refine⟨by show 0<=z.1/\z.1<=((N+1));omega,by show 0<=z.2.1+1/\z.2.1+1<=((N+1));omega,by rw[List.length_tail];omega,λv mv=>hz.2.2.2 v (List.mem_of_mem_tail mv)⟩}
 | say d e =>
  obtain⟨z,ez,mz⟩:=bp (l:=S.kK) (ns:=P.nm 3) W.l3 (bL ok ex mr (k:=3) (t:=d) rfl)
  have hz:=W.dr z mz
  simp only[met,ez,W9]
  exact{ U with
   l3:=by rw[<- U.l3];exact Xa
   dr:=λq m=>by
    rcases XG m with m | rfl
    . exact U.dr q m
    . omega}
 | _=>exact U
theorem AV(ok:P.Ok)(W:fI P N S)(ex:P.hs[j]?=Wv x)(es:S.bT[j]?=Wv s)(ec:S.aZ[j]?=Wv c)(er:x.2[s.row]?=Wv r)(hw:cT P S j= .non)(hg:fE r g):fI P (N+1) (gz P S j c x.2 s g r):=by
 have mr:=WL er;have M:=Lz ok W ex es ec er hw hg;have mc:(met P S j c s g r).1.aZ=S.aZ/\(met P S j c s g r).1.bT=S.bT:=by cases r<;>exact⟨rfl,rfl⟩
 have so:=W.se j x s ex es;have hc:=W.ct c (WL ec);obtain⟨l1,l2,l3⟩:=fz (ok.hd x (WL ex));have hv:=xO ok W (c:=c) ex es er hw hg;have ow:=(jL so.re er).1;have ls:=(WA.mp es).1;have hh:(after s (met P S j c s g r).2.1 r).held.Nodup/\(after s (met P S j c s g r).2.1 r).held.length<=N+1/\(∀ l∈(after s (met P S j c s g r).2.1 r).held,l∈P.s1)/\(after s (met P S j c s g r).2.1 r).held.Pairwise jU:=by
  have le:=so.le;rcases rw_cls r with⟨y,hy⟩ | ⟨l,rfl⟩ | ⟨l,rfl⟩ | ⟨_,af⟩
  . rw[jK hy];exact⟨so.nd,by show s.held.length<=_;omega,so.nm,so.sr⟩
  . have nl:l ∉ s.held:=by simpa [own] using ow
    have ndl:(s.held++[l]).Nodup:=ZM.mpr ⟨so.nd,by simp,λa ha b hb e=>nl (by rw[<- Xq.mp hb,<- e];exact ha)⟩;refine⟨?_,?_,λy hy=>?_,BQ ndl⟩
    . show(d9 (s.held++[l])).Nodup;rw[(gx _).nodup_iff];exact ndl
    . show(d9 (s.held++[l])).length<=_;rw[(gx _).length_eq];simp;omega
    . have hy':y∈d9 (s.held++[l]):=hy;rw[(gx _).mem_iff,XJ] at hy';rcases hy' with hy' | hy'
      . exact so.nm y hy'
      . rw[Xq.mp hy'];exact bL ok ex mr (k:=1) (t:=l) rfl
  . refine⟨so.nd.sublist aa8,?_,λy hy=>so.nm y (YG.mp hy).1,so.sr.sublist aa8⟩;exact Xb (Y5 _ _) (by omega)
  . rw[af];exact⟨so.nd,by show s.held.length<=_;omega,so.nm,so.sr⟩
 exact{ M with
  lc:=by rw[<- M.lc];exact Xa
  ls:=by rw[<- M.ls];exact Xa
  ct:=λq m=>by
   rcases XG m with m | rfl
   . exact M.ct q m
   . omega
  se:=λi y t ey et=>by
   have et':(S.bT.set j (bu x.2 200 (after s (met P S j c s g r).2.1 r)))[i]?=Wv t:=by rw[<- mc.2];exact et
   by_cases z:j=i
   . subst z;rw[Xo ls] at et';rw[ex] at ey;cases et';cases ey;exact⟨qP l3 200 _ (vH so.so er (l3 r mr) hv),by rw[cK];exact hh.1,by rw[cK];exact hh.2.1,i8 200 _,by rw[cK];exact hh.2.2.1,by rw[cK];exact hh.2.2.2⟩
   . rw[XS z] at et';exact(W.se i y t ey et').up}
theorem AK{α :Type}{f}: ∀{l:List α},(∀ x∈l,zt (f x)=true)->j9 (l.map f)=true
 | [],_=>rfl
 | x::r,h=>by rw[WH,j9,h x WW,AK λz m=>h z (WY _ m)];rfl
theorem AR{α :Type}{f}: ∀{l:List α},(∀ x∈l,Iz (f x)<=c)->HP (l.map f)<=(c+1)*l.length
 | [],_=>Xv _
 | x::r,h=>by
  have h1:=h x WW;have h2:=AR (l:=r) λz m=>h z (WY _ m);rw[WH,HP,WE,Nat.mul_succ];omega
theorem Av{α :Type}{f}: ∀{l:List α},(∀ x∈l,Gk (f x)<=c)->uU (l.map f)<=c
 | [],_=>Xv _
 | x::r,h=>by
  have h1:=h x WW;have h2:=Av (l:=r) λz m=>h z (WY _ m);rw[WH,uU];omega
structure Sh(b d:Nat)(v:PV):Prop where
 ok:zt v=true
 bk:Iz v<=b
 dp:Gk v<=d
theorem fC{α :Type}{f}{l:List α} n (hl:l.length<=n) (h: ∀ x∈l,Sh b d (f x)):Sh ((b+1)*n) (d+1) (.tup (l.map f)) :=
 ⟨by exact AK λx m=>(h x m).ok,by exact Xb (AR λx m=>(h x m).bk) (Nat.mul_le_mul_left _ hl),by rw[Gk];have:=Av λx m=>(h x m).dp;omega⟩
theorem uP(h:xH x=true):Sh 20 0 (.str x):=⟨h,Nu h,WG _⟩
theorem bR(h0:0<=i)(h1:i<=1000000):Sh 0 0 (.int i):=⟨by rw[zt,decide_eq_true_eq];exact⟨h0,h1⟩,WG _,WG _⟩
theorem kY:Sh 0 0 .non:=⟨rfl,WG _,WG _⟩
theorem oM d:Sh 0 (d+1) (.tup []):=⟨rfl,WG _,ab2 (Xv _)⟩
theorem de d (h:Sh b e v) (t:Sh c (d+1) (.tup vs)) (he:e<=d:=by decide):Sh (b+1+c) (d+1) (.tup (v::vs)):=by
 have t1:=t.ok;have t2:=t.bk;have t3:=t.dp;have h2:=h.bk;have h3:=h.dp;rw[zt] at t1;rw[Iz] at t2;rw[Gk] at t3;exact⟨by rw[zt,j9,h.ok,t1];rfl,by rw[Iz,HP];omega,by rw[Gk,uU];omega⟩
theorem Sh.up{e}(h:Sh b d v)(hb:b<=c:=by decide)(hd:d<=e:=by decide):Sh c e v:=⟨h.ok,Xb h.bk hb,Xb h.dp hd⟩
theorem Sh.show(h:Sh b d (.tup xs))(hb:b<=1000000:=by decide)(hd:d<=61:=by decide): ∃ x ,∀ g,eG [.tup xs] g= .ok (.str x) g:=by
 have h1:=h.ok;have h2:=h.bk;have h3:=h.dp;rw[Iz] at h2;rw[Gk] at h3;exact JD h1 (by omega) (by omega)
theorem Lq{P:Pg}(ok:P.Ok)(m:t∈P.nm k):xH t=true:=by
 match k,m with
 | 0,m =>
  obtain⟨z,mz,rfl⟩:=Xk.mp (show t∈P.bs.map (·.1) from m)
  exact tw (ok.bx.2 z mz).1
 | 1,m=>exact tw (ok.nm.1.2 t m).1
 | 2,m=>exact tw (ok.nm.2.1.2 t m).1
 | _+3,m=>exact tw (ok.nm.2.2.2 t m).1
theorem wc(N9:N<=100)(h:tW N v):Sh 2 1 v:=by
 rcases h with rfl | ⟨a,b,rfl,h1,h2,h3,h4⟩
 . exact kY.up
 . exact de 0 (bR h1 (by omega)) (de 0 (bR h3 (by omega)) (oM 0))
theorem OZ(ok:P.Ok)(N9:N<=100)(W:fI P N S):Sh 100000 5 (aJ S):=by
 have hm:=ok.many;have a0:Sh ((0+1)*4) 1 (.tup (S.aZ.map PV.int)):=fC 4 (by rw[W.lc];omega) λc m=>by have:=W.ct c m;exact bR (by omega) (by omega)
 have a1:Sh ((2500+1)*4) 4 (.tup (S.bT.map aE)):=fC 4 (by rw[W.ls];omega) λs m=>by
  obtain⟨j,hj,ej⟩:=adg m;have es:S.bT[j]?=Wv s:=by rw[<- ej];exact WD hj
  have hj':j < P.hs.length:=by rw[<- W.ls];exact hj
  have so:=W.se j _ s (WD hj') es;obtain⟨l1,l2,l3⟩:=fz (ok.hd _ (YM hj'));have hd:=(ok.hd _ (YM hj')).1;have pl:=so.so.pk.len;have le:=so.so.le;have p1:Sh ((22+1)*6) 2 (.tup (s.ps.map d8)):=fC 6 (by omega) λz mz=>by
   have:=so.so.pk.mem z mz;exact de 0 (uP (l2 _ this.1)) (de 0 (bR (by omega) (by omega)) (oM 0))
  have p2:=fC 100 (by have:=so.le;omega) λz mz=>uP (Lq ok (k:=1) (so.nm z mz));exact(de 2 (bR (by omega) (by omega)) (de 2 p1 (de 2 p2 (oM 2)))).up
 have a2:Sh ((4+1)*20) 3 (.tup (S.jc.map ib)):=fC 20 (by rw[W.l0];exact ok.bx.1) λz m=>by
  have:=W.bx z m;exact de 1 (bR (by omega) (by omega)) (de 1 (wc N9 this.2) (oM 1))
 have a3:Sh ((4+1)*20) 3 (.tup (S.eJ.map fD)):=fC 20 (by rw[W.l1];exact ok.nm.1.1) λz m=>by
  have:=W.lk z m;refine de 1 (b:=0) (e:=0) ?_ (de 1 (wc N9 this.2) (oM 1));cases e:z.1 with
  | none=>exact kY
  | some i=>have:=this.1 i e;exact bR this.1 (by omega)
 have a4:Sh ((103+1)*20) 3 (.tup (S.cW.map fF)):=fC 20 (by rw[W.l2];exact ok.nm.2.1.1) λz m=>by
  have:=W.ln z m;have q:Sh ((0+1)*100) 1 (.tup (z.2.2.map PV.int)):=fC 100 (by omega) λv mv=>by have:=this.2.2.2 v mv;exact bR this.1 (by omega)
  exact de 1 (bR (by omega) (by omega)) (de 1 (bR (by omega) (by omega)) (de 1 q (oM 1)))
 have a5:Sh ((0+1)*20) 1 (.tup (S.kK.map PV.int)):=fC 20 (by rw[W.l3];exact ok.nm.2.2.1) λz m=>by have:=W.dr z m;exact bR (by omega) (by omega)
 exact(de 4 a0 (de 4 a1 (de 4 a2 (de 4 a3 (de 4 a4 (de 4 a5 (oM 4))))))).up
theorem PU(ok:P.Ok)(N9:N<=100)(W:fI P N S)(ex:P.hs[j]?=Wv x)(es:S.bT[j]?=Wv s)(er:x.2[s.row]?=Wv r)(hg:fE r g):Sh 0 0 g/\Sh 0 0 (met P S j c s g r).2.1/\Sh 2 1 (met P S j c s g r).2.2:=by
 have mr:=WL er;have so:=W.se j x s ex es;obtain⟨l1,l2,l3⟩:=fz (ok.hd x (WL ex));have hr:=l3 r mr;have vF: ∀ e:Sm,jo e->Sh 0 0 (.int (e.val (fP s.ps))):=λe he=>by
  have:=Sm.ny (xi λq m=>(so.so.pk.mem q m).2) e he.1;exact bR this.1 (by omega)
 have gs:Sh 0 0 g:=by
  cases e:dR r with
  | true=>obtain⟨i,rfl,h0,h9,_⟩:=hg.1 e;exact bR h0 (by omega)
  | false=>rw[hg.2 e];exact kY
 refine⟨gs,?_⟩;cases r with
 | get y b =>
  obtain⟨z,ez,mz⟩:=bp (l:=S.jc) (ns:=P.nm 0) (by rw[W.l0];exact(Wy ..).symm) (bL ok ex mr (k:=0) (t:=b) rfl)
  have:=W.bx z mz
  simp only[met,ez,W9]
  exact⟨bR this.1.1 (by omega),wc N9 this.2⟩
 | put b e =>
  obtain⟨z,ez,mz⟩:=bp (l:=S.jc) (ns:=P.nm 0) (by rw[W.l0];exact(Wy ..).symm) (bL ok ex mr (k:=0) (t:=b) rfl)
  simp only[met,ez]
  exact⟨vF e hr,wc N9 (W.bx z mz).2⟩
 | take l =>
  obtain⟨z,ez,mz⟩:=bp (l:=S.eJ) (ns:=P.nm 1) W.l1 (bL ok ex mr (k:=1) (t:=l) rfl)
  simp only[met,ez]
  exact⟨kY,wc N9 (W.lk z mz).2⟩
 | free l=>exact⟨kY,kY.up⟩
 | send l e =>
  obtain⟨z,ez,mz⟩:=bp (l:=S.cW) (ns:=P.nm 2) W.l2 (bL ok ex mr (k:=2) (t:=l) rfl)
  have:=W.ln z mz
  simp only[met,ez]
  exact⟨vF e hr,(bR this.1.1 (by omega)).up⟩
 | fetch y l =>
  obtain⟨z,ez,mz⟩:=bp (l:=S.cW) (ns:=P.nm 2) W.l2 (bL ok ex mr (k:=2) (t:=l) rfl)
  have:=W.ln z mz
  simp only[met,ez,W9]
  refine⟨?_,(bR this.2.1.1 (by omega)).up⟩
  cases q:z.2.2 with
  | nil=>exact bR (by decide) (by decide)
  | cons i ls=>have:=this.2.2.2 i (by rw[q];exact WW);exact bR this.1 (by show i<=_;omega)
 | say d e =>
  obtain⟨z,ez,mz⟩:=bp (l:=S.kK) (ns:=P.nm 3) W.l3 (bL ok ex mr (k:=3) (t:=d) rfl)
  have:=W.dr z mz
  simp only[met,ez]
  exact⟨vF e hr,(bR this.1 (by omega)).up⟩
 | _=>exact⟨gs,kY.up⟩
theorem SM{P:Pg}(ok:P.Ok){j:Nat}(ex:P.hs[j]?=Wv x)(m:r∈x.2):xH r.w=true/\xH r.tg=true:=by
 have e0:xH "" =true:=by decide +kernel
 have nn: ∀ k t,r.nm=Wv (k,t)->xH t=true:=λk t q=>Lq ok (Lo ok ex m q);cases r<;>first | exact⟨by simp only[Rw.w];decide +kernel,nn _ _ rfl⟩ | exact⟨by simp only[Rw.w];decide +kernel,e0⟩
structure Ep(P:Pg)(S:Wd)(j:Nat)(g l:PV)(S1:Wd):Prop where
 at_: ∃ x s c r,P.hs[j]?=Wv x/\S.bT[j]?=Wv s/\S.aZ[j]?=Wv c/\x.2[s.row]?=Wv r/\cT P S j= .non/\fE r g/\S1=gz P S j c x.2 s g r/\l=c7 r (met P S j c s g r).2.1 (met P S j c s g r).2.2
inductive Wk(P:Pg):Wd->List (Nat × PV × PV)->Wd->Prop
 | nil (S:Wd):Wk P S [] S
 | cons {S S1 S2:Wd} {j:Nat} {g l:PV} {r:List (Nat × PV × PV)} (h:Ep P S j g l S1) (t:Wk P S1 r S2):Wk P S ((j,g,l)::r) S2
theorem Wk.app(h:Wk P S a S1)(t:Wk P S1 b S2):Wk P S (a++b) S2:=by
 induction h with
 | nil=>exact t
 | cons h _ ih=>exact .cons h (ih t)
theorem Wk.split: ∀{a b S S2},Wk P S (a++b) S2-> ∃ S1,Wk P S a S1/\Wk P S1 b S2
 | [],b,S,S2,h=>⟨S,.nil S,h⟩
 | z::a,b,S,S2,h=>by
  cases h with
  | cons h t=>obtain⟨S1,h1,h2⟩:=Wk.split t;exact⟨S1,.cons h h1,h2⟩
def cV(z:Nat × PV × PV):PV:= .tup [cL z.1,z.2.1]
def hU(z:Nat × PV × PV):PV:= .tup [cL z.1,z.2.2]
theorem Ep.ok(ok:P.Ok)(W:fI P N S)(h:Ep P S j g l S1):fI P (N+1) S1:=by
 obtain⟨x,s,c,r,ex,es,ec,er,hw,hg,rfl,rfl⟩:=h.at_;exact AV ok W ex es ec er hw hg
theorem Wk.ok(ok:P.Ok)(h:Wk P S a S2): ∀{N},fI P N S->fI P (N+a.length) S2:=by
 induction h with
 | nil=>exact λW=>W
 | cons h _ ih=>intro N W;have:=ih (h.ok ok W);rw[WE,adJ _ 1,<- Nat.add_assoc];exact this
theorem Ep.sh(ok:P.Ok)(N9:N<=100)(W:fI P N S)(h:Ep P S j g l S1):j < P.hs.length/\Sh 0 0 g/\Sh 60 2 l:=by
 obtain⟨x,s,c,r,ex,es,ec,er,hw,hg,rfl,rfl⟩:=h.at_;obtain⟨m1,m2,m3⟩:=PU (c:=c) ok N9 W ex es er hg;obtain⟨t1,t2⟩:=SM ok ex (WL er);exact⟨(WA.mp ex).1,m1,(de 1 (uP t1) (de 1 (uP t2) (de 1 m2 (de 1 m3 (oM 1))))).up⟩
theorem Wk.sh(ok:P.Ok)(h:Wk P S a S2): ∀{N},N+a.length<=100->fI P N S-> ∀ z∈a,z.1 < P.hs.length/\Sh 0 0 z.2.1/\Sh 60 2 z.2.2:=by
 induction h with
 | nil=>intro N _ _ z m;cases m
 | cons h _ ih =>
  intro N hN W z m
  rw[WE] at hN
  rcases WM.mp m with rfl | m
  . exact h.sh ok (by omega) W
  . exact ih (by omega) (h.ok ok W) z m
theorem Lm{P:Pg}(ok:P.Ok){a:List (Nat × PV × PV)}(hl:a.length<=100)(h: ∀ z∈a,z.1 < P.hs.length/\Sh 0 0 z.2.1/\Sh 60 2 z.2.2):Sh 300 2 (.tup (a.map cV))/\Sh 6300 4 (.tup (a.map hU)):=by
 have hm:=ok.many;refine⟨(fC (b:=2) (d:=1) 100 hl λz m=>?_).up,(fC (b:=62) (d:=3) 100 hl λz m=>?_).up⟩
 . obtain⟨h1,h2,h3⟩:=h z m;exact de 0 (bR (by omega) (by omega)) (de 0 h2 (oM 0))
 . obtain⟨h1,h2,h3⟩:=h z m;exact de 2 (bR (by omega) (by omega)) (de 2 h3 (oM 2))
mutual
theorem jE: ∀ v:PV,zt v=true->v.flat=true
 | .tup xs,h=>by rw[zt] at h;rw[PV.flat];exact sT xs h
 | .non,_=>rfl
 | .int _,_=>rfl
 | .str _,_=>rfl
theorem sT: ∀ xs:List PV,j9 xs=true->PV.bo xs=true
 | [],_=>rfl
 | x::r,h=>by
  rw[j9,WX] at h;rw[PV.bo,jE x h.1,sT r h.2];rfl
end
theorem DZ:nK [.tup xs,.ty "tuple"] h= .ok (.bl true) h:=rfl
def Uy:=(gT 2 (aA (gN 5) (aA (gN 6) cw)))
def Um:=(ae (bW (nF (aF (ag "is_tuple_of" (a2 (aa 6) (eI 2))))) jC cE)
  (ae (ai (ag "stepped" (ab (aa 0) (a3 (aa 3) (aa 5) (aa 6)))) (gN 7))
  (ae (ai (eX 7 0) (gN 3))
  (bS (eM aG bq (aa 4) (ab (aq (a2 (eX 6 0) (eX 7 1))) ah))))))
section
variable{pg:Tb}(T:bN pg)
include T
theorem qo k h xs n:run pg (k+1) "is_tuple_of" [.tup xs,.int n] h= .ok (.bl (decide ((xs.length)=n))) h:=by
 rw[run_eq T.rX rfl];simp? [eR,kh,DZ]
theorem xP k h (ok:P.Ok) (W:fI P N S) (N9:N<=60) (st:Ep P S j g l S1) p:run pg (k+14) "stepped" [P.v,aJ S,p,cV (j,g,l)] h= .ok (.tup [aJ S1,l]) h:=by
 obtain⟨x,s,c,r,ex,es,ec,er,hw,hg,rfl,rfl⟩:=st.at_;have ge:=Gv T k h ok W N9 ex es ec er hw hg;rw[run_eq T.Ci rfl];simp? [jZ,sN,cV,cL,ge]
theorem Bj k (h:PH) (ok:P.Ok) xs0 e1 e2 (w:Wk P S a S2): ∀{N},fI P N S->N+a.length<=60-> ∀ ts i e5 e6 e7,ts.length+a.length<=1000 ->
  ∃ f5 f6 f7 ,bK ⟨Wx,xs0⟩ (br Uy Um (run pg (k+14))) (((a.map cV).zipIdx i).map λq=>PV.tup [.int (q.2),q.1]) [Wv P.v,e1,e2,Wv (aJ S),Wv (.ref h.length),e5,e6,e7] (h++[.lst ts])= .ok (.nx [Wv P.v,e1,e2,Wv (aJ S2),Wv (.ref h.length),f5,f6,f7]) (h++[.lst (ts++a.map hU)]):=by
 induction w with
 | nil S=>intro N _ _ ts i e5 e6 e7 _;exact⟨e5,e6,e7,by rw[Xc,Xc,Xr];exact gJ⟩
 | @cons S S1 S2 j g l r st t ih =>
  intro N W hN ts i e5 e6 e7 hl
  rw[WE] at hN hl
  have se:=xP T k (h++[.lst ts]) ok W (by omega) st (.int (i))
  have it:run pg (k+14) "is_tuple_of" [.tup [cL j,g],.int 2] (h++[.lst ts])= .ok (.bl true) (h++[.lst ts]):=qo T (k+13) (h++[.lst ts]) [cL j,g] 2
  have hz:ts.length < 16777216:=by omega
  obtain⟨f5,f6,f7,i1⟩:=ih (st.ok ok W) (by omega) (ts++[hU (j,g,l)]) (i+1) (Wv (.int i)) (Wv (cV (j,g,l))) (Wv (.tup [aJ S1,l])) (by rw[WR];simp;omega)
  refine⟨f5,f6,f7,?_⟩
  have stp:br Uy Um (run pg (k+14)) (.tup [.int (i),cV (j,g,l)]) [Wv P.v,e1,e2,Wv (aJ S),Wv (.ref h.length),e5,e6,e7] (h++[.lst ts])= .ok (.nx [Wv P.v,e1,e2,Wv (aJ S1),Wv (.ref h.length),Wv (.int i),Wv (cV (j,g,l)),Wv (.tup [aJ S1,l])]) (h++[.lst (ts++[hU (j,g,l)])]):=by
   unfold cV hU at *;simp? [Uy,Um,it,se,l8 hz]
  rw[WH,List.zipIdx_cons,WH,eK,stp,dc,cb,i1,WH,WV]
  rfl
theorem sO k h (ok:P.Ok) (W:fI P N S) (hN:N+a.length<=60) (w:Wk P S a S2):run pg (k+15) "walked" [P.v,aJ S,.tup (a.map cV)] h= .ok (.tup [aJ S2,.tup (a.map hU)]) h:=by
 obtain⟨f5,f6,f7,lp⟩:=Bj T k h ok (((a.map cV).zipIdx 0).map λq=>PV.tup [.int (q.2),q.1]) (Wv (aJ S)) (Wv (.tup (a.map cV))) w W hN [] 0 Wx Wx Wx (by simp;omega);have z: ¬ (60) < ((a.map cV).length:Int):=by rw[Wy];omega
 have sh:=w.sh ok (N:=N) (by omega) W;have fl:PV.flat (.tup [aJ S2,.tup (a.map hU)])=true:=by
  have f1:=jE _ (OZ ok (by omega) (w.ok ok W)).ok;have f2:=jE _ (Lm ok (by omega) sh).2.ok;rw[PV.flat,PV.bo,PV.bo,f1,f2];rfl
 unfold Uy Um at lp;rw[run_eq T.EU rfl];simp? [lF,wM,DZ,z,Ih,CY,lp];exact bU fl
end
def dU(x:Str × List Rw):=bu x.2 200 ⟨0,[],[]⟩
def Ql(bs:List (Str × Int))(s1 s2 s3:List Str)(hs:List (Str × List Rw)):PV:= .tup [.tup (hs.map λ_=>PV.int 0),.tup (hs.map λx=>aE (dU x)),.tup (bs.map λb=>PV.tup [.int b.2,.non]),.tup (s1.map λ_=>PV.tup [.non,.non]),.tup (s2.map λ_=>PV.tup [.int 0,.int 0,.tup []]),.tup (s3.map λ_=>PV.int 0)]
theorem tR{α :Type}(hs:List α) f (d:PV):(Xj hs.length).filterMap (λi=>Wv ((hs[i]?.map f).getD d))=hs.map f:=by
 rw[aaF];refine List.ext_getElem (by simp) λi h1 h2=>?_;simp at h1 h2 ⊢;rw[WD (by omega)];rfl
theorem gB{α :Type} f (hf: ∀ x,(f x).flat=true): ∀ l:List α,PV.bo (l.map f)=true
 | []=>rfl
 | x::r=>by rw[WH,PV.bo,hf,gB f hf r];rfl
theorem DF bs s1 s2 s3 hs:(Ql bs s1 s2 s3 hs).flat=true:=by
 unfold Ql;simp only[PV.flat,PV.bo,ZJ,WX];exact⟨gB _ (λ_=>rfl) _,gB _ (λx=>kS _) _,gB _ (λ_=>rfl) _,gB _ (λ_=>rfl) _,gB _ (λ_=>rfl) _,gB _ (λ_=>rfl) _⟩
def cy(P:Pg):Wd:=⟨P.hs.map λ_=>0,P.hs.map dU,P.bs.map λz=>(z.2,.non),P.s1.map λ_=>(Wx,.non),P.s2.map λ_=>(0,0,[]),P.s3.map λ_=>0⟩
theorem Ca P:aJ (cy P)=Ql P.bs P.s1 P.s2 P.s3 P.hs:=by
 unfold aJ cy Ql;simp only[XB];rfl
theorem HS(ok:P.Ok):fI P 0 (cy P) where
 lc:=Wy ..
 ls:=Wy ..
 l0:=Wy ..
 l1:=Wy ..
 l2:=Wy ..
 l3:=Wy ..
 ct c m:=by obtain⟨_,_,rfl⟩:=Xk.mp m;decide
 bx b m:=by obtain⟨z,mz,rfl⟩:=Xk.mp m;exact⟨(ok.bx.2 z mz).2,.inl rfl⟩
 lk l m:=by obtain⟨_,_,rfl⟩:=Xk.mp m;exact⟨λi e=>(by cases e),.inl rfl⟩
 ln n m:=by obtain⟨_,_,rfl⟩:=Xk.mp m;exact⟨by decide,by decide,by decide,λv mv=>(by cases mv)⟩
 dr d m:=by obtain⟨_,_,rfl⟩:=Xk.mp m;decide
 se j x s e1 e2:=by
  have e2':(P.hs.map dU)[j]?=Wv s:=e2;rw[WT,e1] at e2';cases e2';obtain⟨l1,l2,l3⟩:=fz (ok.hd x (WL e1));have h0:(dU x).held=[]:=cK 200 ⟨0,[],[]⟩;exact⟨qP l3 200 _ ⟨.nil,Xv _⟩,by rw[h0];exact .nil,by rw[h0];exact WG _,i8 200 _,by rw[h0];exact λl m=>(by cases m),by rw[h0];exact .nil⟩
section
variable{pg:Tb}(T:bN pg)
include T
theorem o8 k h {P} (ok:P.Ok):run pg (k+12) "first_stand" [P.v] h= .ok (aJ (cy P)) h:=by
 rw[Ca];obtain⟨bs,s1,s2,s3,hs⟩:=P;obtain⟨p,pa⟩: ∃ p,p=Pg.v ⟨bs,s1,s2,s3,hs⟩:=⟨_,rfl⟩
 rw[<- pa];show _=RV.ok (Ql bs s1 s2 s3 hs) h;have hm:1<=hs.length/\hs.length<=4:=ok.many;have ho:run pg (k+11) "hands_of" [p] h= .ok (.ref h.length) (h++[.lst (aH 0 hs.length)]):=by
  rw[run_eq T.yB rfl,pa];unfold Pg.v;have tn:ace ((hs.length:Nat):Int)=hs.length:=XA _;simp? [iR,qI,Sf,Pj,Wy,tn];exact bh rfl
 have lc: ∀(H:PH)(e:ME)(f:Nat->PV),H[h.length]?=Wv (.lst (aH 0 hs.length))->(∀ i < hs.length,e (run pg (k+11)) [Wv p,Wv (.ref h.length),Wv (.int (0+(i:Int)))] H= .ok (f i) H)->gL ⟨Wv h.length,aH 0 hs.length⟩ (aO 1 (gN 2) aN e (run pg (k+11)) [Wv p,Wv (.ref h.length)]) (aH 0 hs.length) [] H= .ok ((Xj hs.length).filterMap λi=>Wv (f i)) H:=λH e f hH he=>by
  refine(dW (cR hH) (Xj hs.length) [] (f:=λi=>Wv (f i)) (g:=λi:Nat=>PV.int (0+(i))) (λi m=>?_) (by simp;omega)).trans (by rw[XF]);have:=he i (YR.mp m);simp? [this]
 have lt: ∀{α :Type}(l:List α)(g f: α ->PV)(e:ME)(H:PH),l.length<=1000->(∀ x∈l,e (run pg (k+11)) [Wv p,Wv (.ref h.length),Wv (g x)] H= .ok (f x) H)->gL ⟨Wx,l.map g⟩ (aO 1 (gN 2) aN e (run pg (k+11)) [Wv p,Wv (.ref h.length)]) (l.map g) [] H= .ok (l.map f) H:=λl g f e H hl he=>by
  refine(dW rfl l [] (f:=λx=>Wv (f x)) (g:=g) (λx m=>?_) (by simp;omega)).trans (by rw[XF,aaF]);have:=he x m;simp? [this]
 let A:=hs.map λ_=>PV.int 0
 let B:=hs.map λx=>aE (dU x)
 have n0: ∀ Y:PH,(h++ .lst (aH 0 hs.length)::Y)[h.length]?=Wv (.lst (aH 0 hs.length)):=λY=>aR;have c1: ∀ Y:PH,gL ⟨Wv h.length,aH 0 hs.length⟩ (aO 1 (gN 2) aN (eI 0) (run pg (k+11)) [Wv p,Wv (.ref h.length)]) (aH 0 hs.length) [] (h++ .lst (aH 0 hs.length)::Y)= .ok A (h++ .lst (aH 0 hs.length)::Y):=λY=>by
  rw[lc _ (eI 0) (λi=>((hs[i]?.map λ_=>PV.int 0).getD (.int 0))) (n0 Y) (λi hi=>by rw[Gb,WD hi];rfl),tR]
 have c2: ∀ Y:PH,gL ⟨Wv h.length,aH 0 hs.length⟩ (aO 1 (gN 2) aN (ag "first_seat" (a2 (aa 0) (aa 2))) (run pg (k+11)) [Wv p,Wv (.ref h.length)]) (aH 0 hs.length) [] (h++ .lst (aH 0 hs.length)::Y)= .ok B (h++ .lst (aH 0 hs.length)::Y):=λY=>by
  rw[lc _ (ag "first_seat" (a2 (aa 0) (aa 2))) (λi=>((hs[i]?.map λx=>aE (dU x)).getD .non)) (n0 Y) (λi hi=>?_),tR];have e:=WD hi;obtain⟨_,L,l1,_,l3⟩:=ok.hd _ (YM hi);have fs:run pg (k+11) "first_seat" [p,.int i] (h++ .lst (aH 0 hs.length)::Y)=_:=sA T k _ (L:=L) (by omega) (by rw[pa];exact Pg.hand _ e) (λr m=>(l3 r m).1);rw[e];have iz:(0:Int)+(i:Int)=(i:Int):=abd _;simp? [iz,fs];rfl
 have b20:bs.length<=20:=ok.bx.1;have n1:s1.length<=20:=ok.nm.1.1;have n2:s2.length<=20:=ok.nm.2.1.1;have n3:s3.length<=20:=ok.nm.2.2.1;have c3: ∀ H:PH,gL ⟨Wx,bs.map d8⟩ (aO 1 (gN 2) aN (aq (a2 (eX 2 1) (eC .non))) (run pg (k+11)) [Wv p,Wv (.ref h.length)]) (bs.map d8) [] H= .ok (bs.map λb=>PV.tup [.int b.2,.non]) H:=λH=>lt bs d8 _ _ H (by omega) λx _=>by simp? [d8]
 have c4: ∀ H:PH,gL ⟨Wx,s1.map PV.str⟩ (aO 1 (gN 2) aN (aq (a2 (eC .non) (eC .non))) (run pg (k+11)) [Wv p,Wv (.ref h.length)]) (s1.map PV.str) [] H= .ok (s1.map λ_=>PV.tup [.non,.non]) H:=λH=>lt s1 PV.str _ _ H (by omega) λx _=>by simp? [Xc]
 have c5: ∀ H:PH,gL ⟨Wx,s2.map PV.str⟩ (aO 1 (gN 2) aN (aq (a3 (eI 0) (eI 0) (aq ah))) (run pg (k+11)) [Wv p,Wv (.ref h.length)]) (s2.map PV.str) [] H= .ok (s2.map λ_=>PV.tup [.int 0,.int 0,.tup []]) H:=λH=>lt s2 PV.str _ _ H (by omega) λx _=>by simp? [Xc]
 have c6: ∀ H:PH,gL ⟨Wx,s3.map PV.str⟩ (aO 1 (gN 2) aN (eI 0) (run pg (k+11)) [Wv p,Wv (.ref h.length)]) (s3.map PV.str) [] H= .ok (s3.map λ_=>PV.int 0) H:=λH=>lt s3 PV.str _ _ H (by omega) λx _=>rfl;have i0: ∀ H,aB p (.int 0) H= .ok (.tup (bs.map d8)) H:=λH=>by rw[pa];exact qq
 have i1: ∀ H,aB p (.int 1) H= .ok (.tup (s1.map PV.str)) H:=λH=>by rw[pa];exact jf
 have i2: ∀ H,aB p (.int 2) H= .ok (.tup (s2.map PV.str)) H:=λH=>by rw[pa];exact vI
 have i3: ∀ H,aB p (.int 3) H= .ok (.tup (s3.map PV.str)) H:=λH=>by rw[pa];exact Bc
 rw[run_eq T.rM rfl];simp? [eU,kn,ho,c1,c2,c3,c4,c5,c6,i0,i1,i2,i3];exact bU (v:=Ql bs s1 s2 s3 hs) (DF ..)
end
structure FI(dn:List (Str × List Rw))(R:PH):Prop where
 len:R.length=4+3*dn.length
 at_: ∀(j:Nat)(x:Str × List Rw),dn[j]?=Wv x-> ∃ D:Pk,R[4+3*j]?=Wv (.dct (fh D))/\R[6+3*j]?=Wv (.lst [])/\R[5+3*j]?=Wv (.lst [])/\sE (LM x) D/\ ∀ y,fP D y=fP (dU x).ps y
theorem FI.more(h:FI dn R)(hD:sE (LM x) D)(hf: ∀ y,fP D y=fP (dU x).ps y):FI (dn++[x]) (R++[.dct (fh D),.lst [],.lst []]):=by
 have l:=h.len;refine⟨by simp only[WR,WE,Xf];omega,λj y e=>?_⟩;by_cases z:j < dn.length
 . rw[Xu z] at e;obtain⟨D0,h1,h2,h5,h3⟩:=h.at_ j y e;exact⟨D0,(aw (aC h1)).trans h1,(aw (aC h2)).trans h2,(aw (aC h5)).trans h5,h3⟩
 . rw[Xe (by omega)] at e;have j0:j=dn.length:=by
    have:=(WA.mp e).1;simp at this;omega
   subst j0;rw[Nat.sub_self] at e;cases e;refine⟨D,?_,?_,?_,hD,hf⟩
   . rw[show 4+3*dn.length=R.length by omega];exact aR
   . rw[show 6+3*dn.length=R.length+2 by omega,aM];rfl
   . rw[show 5+3*dn.length=R.length+1 by omega,aM];rfl
theorem Ow n ss s:sL n (ss++[s])=sL n ss++[Gf n ss.length s]:=by
 unfold sL;simp
def fB:=(ae (ai uC (gN 3)) (ae (ai (ag "_law_rest" (ab (eX 2 1) (a3 (eI 0) (aa 3) (bD ah)))) (gN 4)) (ae (bS (eM aG bq (aj aB (aa 1) (eS "counts")) (a1 (eI 0)))) (bS (eM aG bq (aj aB (aa 1) (eS "seats")) (ab (aq (a3 (aa 4) (aa 3) (bD ah))) ah))))))
section
variable{pg:Tb}(T:bN pg)
include T
theorem xZ k h xs0 e0: ∀ hs dn R e2 e3 e4,dn.length+hs.length<=1000->(∀ x∈hs,kH s0 s1 s2 s3 x)->FI dn R ->
  ∃(X:PH)(f2 f3 f4:Option PV),FI (dn++hs) (R++X) /\
   bK ⟨Wx,xs0⟩ (br (gN 2) fB (run pg (k+10))) (hs.map bz) [e0,Wv (.ref h.length),e2,e3,e4] (h++ .dct (sC h.length):: .lst (dn.map λ_=>PV.int 0):: .lst (sL h.length (dn.map dU))::R)= .ok (.nx [e0,Wv (.ref h.length),f2,f3,f4]) (h++ .dct (sC h.length):: .lst ((dn++hs).map λ_=>PV.int 0):: .lst (sL h.length ((dn++hs).map dU))::(R++X)):=by
 obtain⟨vc,vs,_⟩:=dJ h.length;intro hs
 induction hs with
 | nil=>intro dn R e2 e3 e4 _ _ f;exact⟨[],e2,e3,e4,by simpa using f,by simp only[Xc,Xr];exact gJ⟩
 | cons x hs ih =>
  intro dn R e2 e3 e4 hc hH f
  rw[WE] at hc
  have lR:=f.len
  obtain⟨l1,l2,l3⟩:=fz (hH x WW)
  let aZ:=dn.map λ_=>PV.int 0
  let bT:=sL h.length (dn.map dU)
  let W:=h++ .dct (sC h.length):: .lst aZ:: .lst bT::R
  have lW:W.length=h.length+(R.length+1+1+1):=by simp[W]
  obtain⟨D,a1,a2,a3⟩:=zV T k (W++[.dct [],.lst []]) (d:=W.length) (l:=W.length+1) (hl:=[]) (L:=LM x) (rs:=x.2) (t:=⟨0,[],[]⟩) (D:=[]) (by omega) (by omega) l3 aR (by rw[aM];rfl) (λy=>Iff.rfl) ⟨.nil,Xv _⟩ ⟨.nil,λq m=>by cases m⟩ (λ_=>rfl)
  rw[fW] at a3
  let v:PV:= .tup [.int (dU x).row,.ref (h.length+(R.length+1+1+1)),.ref (h.length+(R.length+(0+1+1)+1+1+1))]
  obtain⟨X,f2,f3,f4,i1,i2⟩:=ih (dn++[x]) (R++[.dct (fh D),.lst [],.lst []]) (Wv (bz x)) (Wv (.ref (h.length+(R.length+1+1+1)))) (Wv (.int (dU x).row)) (by simp only[WR,WE,Xf];omega) (λz m=>hH z (WY _ m)) (f.more a1 a2)
  refine⟨[.dct (fh D),.lst [],.lst []]++X,f2,f3,f4,?_,?_⟩
  . rw[<- WV];rw[WV dn] at i1;exact i1
  have hz1:aZ.length < 16777216:=by simp only[aZ,Wy];omega
  have hz2:bT.length < 16777216:=by simp only[bT];rw[yC,Wy];omega
  have h1: ∀ H,aB (bz x) (.int 1) H= .ok (bJ x.2) H:=λH=>jf
  have st:br (gN 2) fB (run pg (k+10)) (bz x) [e0,Wv (.ref h.length),e2,e3,e4] W= .ok (.nx [e0,Wv (.ref h.length),Wv (bz x),Wv (.ref (h.length+(R.length+1+1+1))),Wv (.int (dU x).row)]) (h++ .dct (sC h.length):: .lst (aZ++[.int 0]):: .lst (bT++[v])::(R++[.dct (fh D),.lst [],.lst []])):=by
   have a3':run pg (k+10) "_law_rest" [bJ x.2,.int 0,.ref (h.length+(R.length+1+1+1)),.ref (h.length+(R.length+(0+1)+1+1+1))] (h++ .dct (sC h.length):: .lst aZ:: .lst bT::(R++[.dct [],.lst []]))= .ok (.int (dU x).row) (h++ .dct (sC h.length):: .lst aZ:: .lst bT::(R++[.dct (fh D),.lst []])):=by
    rw[lW] at a3;simp only[W,WV,Yf,aam] at a3;exact a3
   clear_value aZ bT
   simp? [fB,W,v,h1,a3',vc,vs,l8 hz1,l8 hz2]
  have ec:(dn++[x]).map (λ_=>PV.int 0)=aZ++[.int 0]:=by rw[Xl];rfl
  have es:sL h.length ((dn++[x]).map dU)=bT++[v]:=by
   rw[Xl,WH,Xc,Ow,Wy];show bT++[_]=bT++[v];unfold Gf;rw[show h.length+7+3*dn.length=h.length+(R.length+1+1+1) by omega,show h.length+9+3*dn.length=h.length+(R.length+(0+1+1)+1+1+1) by omega]
  rw[ec,es] at i2
  rw[WH,eK]
  show(br (gN 2) fB (run pg (k+10)) (bz x) [e0,Wv (.ref h.length),e2,e3,e4] W).bind _=_
  rw[st,dc,cb,i2]
  simp
end
def mO(n:Nat):List (Key × PV):=[(.inr "counts",.ref (n+1)),(.inr "seats",.ref (n+2)),(.inr "doors",.ref (n+3))]
theorem OB n:cm [] (mO n)=mO n/\iA (mO n) (.inr "boxes") (.ref (n+4))=mO n++[(.inr "boxes",.ref (n+4))]/\iA (mO n++[(.inr "boxes",.ref (n+4))]) (.inr "locks") (.ref (n+5))=mO n++[(.inr "boxes",.ref (n+4)),(.inr "locks",.ref (n+5))]/\iA (mO n++[(.inr "boxes",.ref (n+4)),(.inr "locks",.ref (n+5))]) (.inr "lanes") (.ref (n+6))=sC n:=by
 refine⟨?_,?_,?_,?_⟩<;>simp[mO,sC,cm,iA,cQ]
section
variable{pg:Tb}(T:bN pg)
include T
theorem uR k h (ok:P.Ok) :
  ∃ X ,X.length=7+3*P.hs.length/\Rep (h++X) h.length P (cy P) (cy P).bT/\run pg (k+11) "_law_first" [P.v] h= .ok (.ref h.length) (h++X):=by
 have b20:=ok.bx.1;have n1:=ok.nm.1.1;have n2:=ok.nm.2.1.1;have n3:=ok.nm.2.2.1;have hm:=ok.many
 let n:=h.length
 let A3:PO:= .lst (P.s3.map λ_=>PV.int 0)
 let A0:PO:= .lst (P.bs.map λb=>PV.tup [.int b.2,.non])
 let A1:PO:= .lst (P.s1.map λ_=>PV.tup [.non,.non])
 let A2:PO:= .lst (P.s2.map λ_=>PV.tup [.int 0,.int 0,.tup []])
 obtain⟨X,f2,f3,f4,i1,i2⟩:=xZ T k h (P.hs.map bz) (Wv P.v) P.hs [] [A3,A0,A1,A2] Wx Wx Wx (by simp;omega) ok.hd ⟨rfl,λj x e=>by cases e⟩;rw[XF] at i1;have lX:=i1.len
 let Y:= .dct (sC n):: .lst (P.hs.map λ_=>PV.int 0):: .lst (sL n (P.hs.map dU))::([A3,A0,A1,A2]++X)
 refine⟨Y,by simp only[Y,WE];omega,⟨λi hi=>?_,λj x s ex es=>?_,λj hj=>?_⟩,?_⟩
 . rw[aM]
   match i,hi with
   | 0,_=>rfl
   | 1,_=>show Wv (PO.lst (P.hs.map λ_=>PV.int 0))=Wv (.lst ((P.hs.map λ_=>(0)).map PV.int));rw[XB];rfl
   | 2,_=>rfl
   | 3,_=>show Wv A3=Wv (.lst ((P.s3.map λ_=>(0)).map PV.int));rw[XB];rfl
   | 4,_=>show Wv A0=Wv (.lst ((P.bs.map λz=>(z.2,PV.non)).map ib));rw[XB];rfl
   | 5,_=>show Wv A1=Wv (.lst ((P.s1.map λ_=>((Wx),PV.non)).map fD));rw[XB];rfl
   | 6,_=>show Wv A2=Wv (.lst ((P.s2.map λ_=>((0),(0),([]))).map fF));rw[XB];rfl
 . have es':(P.hs.map dU)[j]?=Wv s:=es;rw[WT,ex] at es';cases es';obtain⟨D,h1,h2,_,h3,h4⟩:=i1.at_ j x ex;have h0:(dU x).held=[]:=cK 200 ⟨0,[],[]⟩;refine⟨D,[],?_,?_,h3,h4,.nil,by rw[h0];exact λy=>Iff.rfl⟩
   . rw[show h.length+7+3*j=h.length+(4+3*j+1+1+1) by omega,aM];exact h1
   . rw[show h.length+9+3*j=h.length+(6+3*j+1+1+1) by omega,aM];exact h2
 . obtain⟨D,_,_,h5,_⟩:=i1.at_ j _ (WD hj);rw[show h.length+8+3*j=h.length+(5+3*j+1+1+1) by omega,aM];exact h5
 obtain⟨p0,p1,p2,p3⟩:=OB n;have c3: ∀(E:aQ)(H:PH),gL ⟨Wx,P.s3.map PV.str⟩ (aO 1 (gN 5) aN (eI 0) (run pg (k+10)) E) (P.s3.map PV.str) [] H= .ok (P.s3.map λ_=>PV.int 0) H:=λE H=>CS (by omega) λx _=>rfl;have c0: ∀(e1:Option PV)(H:PH),gL ⟨Wx,P.bs.map d8⟩ (aO 1 (gN 5) aN (aq (a2 (eX 5 1) (eC .non))) (run pg (k+10)) [Wv P.v,e1,Wx,Wx,Wx]) (P.bs.map d8) [] H= .ok (P.bs.map λb=>PV.tup [.int b.2,.non]) H:=λe1 H=>CS (by omega) λx _=>by simp? [d8]
 have c1: ∀(e1:Option PV)(H:PH),gL ⟨Wx,P.s1.map PV.str⟩ (aO 1 (gN 5) aN (aq (a2 (eC .non) (eC .non))) (run pg (k+10)) [Wv P.v,e1,Wx,Wx,Wx]) (P.s1.map PV.str) [] H= .ok (P.s1.map λ_=>PV.tup [.non,.non]) H:=λe1 H=>CS (by omega) λx _=>by simp? [Xc]
 have c2: ∀(e1:Option PV)(H:PH),gL ⟨Wx,P.s2.map PV.str⟩ (aO 1 (gN 5) aN (aq (a3 (eI 0) (eI 0) (aq ah))) (run pg (k+10)) [Wv P.v,e1,Wx,Wx,Wx]) (P.s2.map PV.str) [] H= .ok (P.s2.map λ_=>PV.tup [.int 0,.int 0,.tup []]) H:=λe1 H=>CS (by omega) λx _=>by simp? [Xc]
 have i0: ∀ H,aB P.v (.int 0) H= .ok (.tup (P.bs.map d8)) H:=λH=>qq;have j1: ∀ H,aB P.v (.int 1) H= .ok (.tup (P.s1.map PV.str)) H:=λH=>jf;have j2: ∀ H,aB P.v (.int 2) H= .ok (.tup (P.s2.map PV.str)) H:=λH=>vI;have j3: ∀ H,aB P.v (.int 3) H= .ok (.tup (P.s3.map PV.str)) H:=λH=>Bc;have j4: ∀ H,aB P.v (.int 4) H= .ok (.tup (P.hs.map bz)) H:=λH=>uE;have dk:Qc h.length [((.inr "counts"),PV.ref (h.length+(0+1))),(.inr "seats",.ref (h.length+(0+1+1))),(.inr "doors",.ref (h.length+(0+1+1+1)))] (h++[.dct [],.lst [],.lst [],A3])= .ok (.ref h.length) (h++[.dct (mO n),.lst [],.lst [],A3]):=by
  rw[DC aR (by simp),fW];show RV.ok (PV.ref h.length) (h++[.dct (cm [] (mO n)),.lst [],.lst [],A3])=_;rw[p0]
 have l3:(mO n).length < 16777216:=by simp[mO]
 have l4:(mO n++[((.inr "boxes" :Key),PV.ref (n+4))]).length < 16777216:=by simp[mO]
 have l5:(mO n++[((.inr "boxes" :Key),PV.ref (n+4)),(.inr "locks",.ref (n+5))]).length < 16777216:=by simp[mO]
 have A:iK (run pg (k+10)) [Wv P.v,Wx,Wx,Wx,Wx] h= .ok (.rt (.ref h.length)) (h++Y):=by
  show ae _ (ae _ (ae _ (ae _ (ae _ _)))) _ _ _=_;refine(ba (e1:=[Wv P.v,Wv (.ref h.length),Wx,Wx,Wx]) (h1:=h++[.dct (mO n),.lst [],.lst [],A3]) ?_).trans ?_
  . simp? [lO,pS,lq,pT,ph,pA,j3,c3,A3,dk]
  refine(ba (e1:=[Wv P.v,Wv (.ref h.length),Wx,Wx,Wx]) (h1:=h++[.dct (mO n++[(.inr "boxes",.ref (n+4))]),.lst [],.lst [],A3,A0]) ?_).trans ?_
  . have q:iA (mO n) (.inr "boxes") (.ref (h.length+(0+1+1+1+1)))=_:=p1;simp? [A0,i0,c0,k4 l3,q]
  refine(ba (e1:=[Wv P.v,Wv (.ref h.length),Wx,Wx,Wx]) (h1:=h++[.dct (mO n++[(.inr "boxes",.ref (n+4)),(.inr "locks",.ref (n+5))]),.lst [],.lst [],A3,A0,A1]) ?_).trans ?_
  . have q:iA (mO n++[(.inr "boxes",.ref (n+4))]) (.inr "locks") (.ref (h.length+(0+1+1+1+1+1)))=_:=p2;simp? [A1,j1,c1,k4 l4,q]
  refine(ba (e1:=[Wv P.v,Wv (.ref h.length),Wx,Wx,Wx]) (h1:=h++[.dct (sC n),.lst [],.lst [],A3,A0,A1,A2]) ?_).trans ?_
  . have q:iA (mO n++[(.inr "boxes",.ref (n+4)),(.inr "locks",.ref (n+5))]) (.inr "lanes") (.ref (h.length+(0+1+1+1+1+1+1)))=_:=p3;simp? [A2,j2,c2,k4 l5,q]
  . unfold fB at i2;simp only[XF,Yf,Xc] at i2;have sn:sL h.length []=[]:=rfl;rw[sn] at i2;simp? [j4,i2,n,Y]
 rw[run_eq T.uY rfl];show fin _ (iK (run pg (k+10)) [Wv P.v,Wx,Wx,Wx,Wx] h)=_;rw[A,jG];exact bh rfl
end
theorem tJ{H:PH}(h0:H[0]?=Wv a)(h1:H[1]?=Wv b): ∃ G,H=a::b::G:=by
 match H,h0,h1 with
 | x::y::G,h0,h1=>cases h0;cases h1;exact⟨G,rfl⟩
theorem tQ: ∀{h h'},h.length<=h'.length->(∀(i:Nat) o o',h[i]?=Wv o->h'[i]?=Wv o'->o=o'\/(o'.hX n=true/\o.dz=o'.dz))->bY n h h'=true
 | [],_,_,_=>rfl
 | o::h,[],l,_=>by simp at l
 | o::h,o'::h',l,f=>by
  rw[bY,tQ (by simpa using l) λi a b e1 e2=>f (i+1) a b e1 e2];rcases f 0 o o' rfl rfl with e | ⟨e1,e2⟩
  . simp[e]
  . simp[e1,e2]
theorem wK(fl:v.flat=true)(l:h.length<=h'.length)(f: ∀(i:Nat) (o o'),h[i]?=Wv o->h'[i]?=Wv o'->o=o'\/(o'.hX h.length=true/\o.dz=o'.dz)):P3.settle h v h'= .ok v (h'.take h.length):=by
 unfold P3.settle;rw[if_pos (by rw[fl,tQ l f];rfl)]
theorem jR{α :Type}{f}{l:List α}(h: ∀ x∈l,(f x).flat=true):(PO.lst (l.map f)).hX n=true:=fV n _ (ir h)
theorem Rep.drop(R:Rep H n P S S.bT)(R':Rep H' n P S' S'.bT)(W:fI P N S)(W':fI P N' S')(hm:n+7+3*P.hs.length<=m)(h1:n<=i)(h2:i < n+7+3*P.hs.length)(e:H[i]?=Wv o)(e':H'[i]?=Wv o'):o=o'\/(o'.hX m=true/\o.dz=o'.dz):=by
 by_cases z:i < n+7
 . obtain⟨k,rfl⟩: ∃ k,i=n+k:=⟨i - n,by omega⟩
   have hk:k < 7:=by omega
   rw[R.c k hk] at e;rw[R'.c k hk] at e';cases e;cases e'
   match k,hk with
   | 0,_=>exact .inl rfl
   | 1,_=>exact .inr ⟨jR λ_ _=>rfl,rfl⟩
   | 2,_ =>
    refine .inr ⟨?_,rfl⟩
    have: ∀(vs:List PV),(∀ v∈vs,v.hX m=true)->PV.iy m vs=true:=λvs=>by
     induction vs with
     | nil=>exact λ_=>rfl
     | cons v vs ih=>intro h;rw[PV.iy,h v WW,ih λz mz=>h z (WY _ mz)];rfl
    refine this _ λv mv=>?_
    obtain⟨j,hj,rfl⟩:=adg mv
    have hj':j < S'.bT.length:=by rw[<- yC n];exact hj
    have ej:=DP (n:=n) (WD hj')
    rw[WD hj] at ej
    rw[Xx ej]
    have:=W'.ls
    simp only[Gf,PV.hX,PV.iy,ZJ,adl,WX,decide_eq_true_eq]
    omega
   | 3,_=>exact .inr ⟨jR λ_ _=>rfl,rfl⟩
   | 4,_=>exact .inr ⟨jR λb mb=>by simp only[ib,PV.flat,PV.bo,(W'.bx b mb).2.flat,ZJ],rfl⟩
   | 5,_=>exact .inr ⟨jR λb mb=>by
     have:=(W'.lk b mb).2.flat;obtain⟨a,b⟩:=b;cases a<;>simp only[fD,Ku,PV.flat,PV.bo,this,ZJ],rfl⟩
   | 6,_=>exact .inr ⟨jR λb mb=>by simp only[fF,PV.flat,PV.bo,ZJ];exact ir λ_ _=>rfl,rfl⟩
 . obtain⟨j,k,hk,rfl⟩: ∃ j k,k < 3/\i=n+7+3*j+k:=⟨(i - n - 7) / 3,(i - n - 7) % 3,by omega,by omega⟩
   have hj:j < P.hs.length:=by omega
   obtain⟨D,hl,d1,d2,_⟩:=R.p j _ _ (WD hj) (WD (by rw[W.ls];exact hj));obtain⟨D',hl',d1',d2',_⟩:=R'.p j _ _ (WD hj) (WD (by rw[W'.ls];exact hj))
   match k,hk with
   | 0,_ =>
    rw[adV,d1] at e;rw[adV,d1'] at e'
    cases e;cases e'
    exact .inr ⟨FR _ _,rfl⟩
   | 1,_ =>
    rw[show n+7+3*j+1=n+8+3*j by omega] at e e'
    rw[R.g j hj] at e;rw[R'.g j hj] at e'
    cases e;cases e'
    exact .inl rfl
   | 2,_ =>
    rw[show n+7+3*j+2=n+9+3*j by omega] at e e'
    rw[d2] at e;rw[d2'] at e'
    cases e;cases e'
    exact .inr ⟨jR λ_ _=>rfl,rfl⟩
structure DI(H:PH)(fr:PO)(n r:Nat)(P:Pg)(q:Int × Int × Int)(S:Wd)(a:List (Nat × PV × PV))(Z:PH):Prop where
 z0:Z[0]?=Wv fr
 z1:Z[1]?=Wv (bw q)
 R:Rep Z n P S S.bT
 ru:Z[r]?=Wv (.lst (a.map cV))
 lo:Z[r+1]?=Wv (.lst (a.map hU))
 off: ∀ i,i < r->i≠1->(i < n\/n+7+3*P.hs.length<=i)->Z[i]?=H[i]?
theorem DI.app(I:DI H fr n r P q S a Z) Y:DI H fr n r P q S a (Z++Y) :=
 ⟨(aw (aC I.z0)).trans I.z0,(aw (aC I.z1)).trans I.z1,I.R.app Y,(aw (aC I.ru)).trans I.ru,(aw (aC I.lo)).trans I.lo,λi h1 h2 h3=>(aw (by have:=aC I.ru;omega)).trans (I.off i h1 h2 h3)⟩
theorem DI.box{G:PH}(n2:2<=n)(nr:n+7+3*P.hs.length<=r)(I:DI H fr n r P q S a (fr::bw q::G)):DI H fr n r P q' S a (fr::bw q'::G):=by
 have off: ∀ i,i≠1->(fr::bw q'::G)[i]?=(fr::bw q::G)[i]?:=λi hi=>by
  match i,hi with
  | 0,_=>rfl
  | k+2,_=>rfl
 exact⟨rfl,rfl,I.R.same λi h1 _=>off i (by omega),by rw[off _ (by omega)];exact I.ru,by rw[off _ (by omega)];exact I.lo,λi h1 h2 h3=>by rw[off i h2];exact I.off i h1 h2 h3⟩
def K8:=(lT (aF (aj ke (aa 6) (bD ah))) (aF (aj BM (eB bV (a1 (aa 4))) (aa 3))))
def UL:=(ae (ai (aj aB (aa 6) (ag "_law_take" (ab (aa 1) (ab (eB bV (a1 (aa 6))) ah)))) (gN 7))
  (ae (ai (ag "_law_gift" (ab (aa 1) (ab (ag "_law_row" (a3 (aa 0) (aa 2) (aa 7))) ah))) (gN 8))
  (ae (bS (eM aG bq (aa 4) (ab (aq (a2 (aa 7) (aa 8))) ah)))
  (ae (bS (eM aG bq (aa 5) (ab (aq (ab (aa 7) (ab (ag "_law_go" (ab (aa 0) (a3 (aa 2) (aa 7) (aa 8)))) ah))) ah)))
  (ai (ag "_law_can" (a2 (aa 0) (aa 2))) (gN 6))))))
section
variable{pg:Tb}(T:bN pg)
include T
theorem Bn k (ok:P.Ok) (n2:2<=n) (nr:n+7+3*P.hs.length<=r) (W:fI P N S) (N9:N<=60) (la:a.length<=100) (I:DI H fr n r P q S a Z) (hc:Z[c]?=Wv (.lst ((fN P S).map cL))) (rc:r+1 < c) (ne:fN P S≠[]) m e7 e8 :
  ∃(j:Nat)(g l:PV)(S1:Wd)(q':Int × Int × Int)(Z':PH)(c':Nat)(f7 f8:Option PV),Ep P S j g l S1/\DI H fr n r P q' S1 (a++[(j,g,l)]) Z'/\Z'[c']?=Wv (.lst ((fN P S1).map cL))/\r+1 < c' /\
   UL (run pg (k+20)) [Wv P.v,Wv (.ref 1),Wv (.ref n),Wv m,Wv (.ref r),Wv (.ref (r+1)),Wv (.ref c),e7,e8] Z= .ok (.nx [Wv P.v,Wv (.ref 1),Wv (.ref n),Wv m,Wv (.ref r),Wv (.ref (r+1)),Wv (.ref c'),f7,f8]) Z':=by
 have hm:=ok.many;have lc0:=adf.mpr ne;have lc4:(fN P S).length<=4:=by
  unfold fN;exact Xb (Y5 _ _) (by rw[aaC];omega)
 obtain⟨G,rfl⟩:=tJ I.z0 I.z1;obtain⟨v,q1,v0,v1,ev⟩:=cv T (k+19) fr q (fN P S).length (by omega) (by omega);obtain⟨vn,rfl⟩:=XX v0;have vl:vn < (fN P S).length:=by omega
 obtain⟨j,ej⟩: ∃ j,(fN P S)[vn]?=Wv j:=⟨_,WD vl⟩
 have mj:=YG.mp (WL ej);have hj:=YR.mp mj.1;have hw:cT P S j= .non:=by simpa using mj.2
 obtain⟨x,s,cc,ex,es,ec,so⟩:=mH W hj;obtain⟨rw_,er⟩: ∃ r,x.2[s.row]?=Wv r:=by
  cases e:x.2[s.row]? with
  | some r=>exact⟨r,rfl⟩
  | none =>
   unfold cT at hw
   rw[fe ex es,e] at hw
   cases hw
 obtain⟨l1,l2,l3⟩:=fz (ok.hd x (WL ex));obtain⟨gf,q2,hg,eg⟩:=vL T (k+18) fr q1 (l3 rw_ (WL er));have I1:DI H fr n r P q1 S a (fr::bw q1::G):=I.box n2 nr;have I2:DI H fr n r P q2 S a (fr::bw q2::G):=I.box n2 nr;obtain⟨K0,hK0⟩: ∃ K,K=fr::bw q::G:=⟨_,rfl⟩
 obtain⟨K1,hK1⟩: ∃ K,K=fr::bw q1::G:=⟨_,rfl⟩
 obtain⟨K2,hK2⟩: ∃ K,K=fr::bw q2::G:=⟨_,rfl⟩
 have ev':run pg (k+20) "_law_take" [.ref 1,.int ((fN P S).length)] K0= .ok (.int (vn)) K1:=by rw[hK0,hK1];exact ev G
 have eg':run pg (k+20) "_law_gift" [.ref 1,bF rw_] K1= .ok gf K2:=by rw[hK1,hK2];exact eg G
 have lK0:K0[c]?=Wv (.lst ((fN P S).map cL)):=by rw[hK0];exact hc
 have c1:c≠1:=by omega
 have lK1:K1[c]?=Wv (.lst ((fN P S).map cL)):=by
  rw[hK1]
  match c,c1,hc with
  | 0,_,hc=>exact hc
  | c+2,_,hc=>exact hc
 rw[<- hK1] at I1;rw[<- hK2] at I2;have ro:=kJ T (k+19) W I1.R.cells hj;rw[fe ex es,er] at ro;have ro':run pg (k+20) "_law_row" [P.v,.ref n,cL j] K1= .ok (bF rw_) K1:=ro;have ln:bV [.ref c] K0= .ok (.int ((fN P S).length)) K0:=by rw[vY,lK0,qy,Wy]
 have ix1:aB (.ref c) (.int (vn)) K1= .ok (cL j) K1:=by rw[xl,lK1,yK,bG (f:=cL) ej];rfl
 let S1:=gz P S j cc x.2 s gf rw_
 let l:=c7 rw_ (met P S j cc s gf rw_).2.1 (met P S j cc s gf rw_).2.2
 have hz: ∀ f:Nat × PV × PV->PV,(a.map f).length < 16777216:=λf=>by rw[Wy];omega
 let K3:=K2.set r (.lst (a.map cV++[.tup [cL j,gf]]))
 have ap1:aG (.ref r) [.tup [cL j,gf]] K2= .ok .non K3:=by rw[GW,I2.ru,l8 (hz _)]
 have R3:Rep K3 n P S S.bT:=I2.R.same λi h1 h2=>aV (by omega);obtain⟨K4,F4,R4,go⟩:=B4 T (k+9) ok W N9 R3 ex es ec er hw hg;have go':run pg (k+20) "_law_go" [P.v,.ref n,cL j,gf] K3= .ok l K4:=go;have lo3:K3[r+1]?=Wv (.lst (a.map hU)):=by show(K2.set _ _)[_]?=_;rw[aV (by omega)];exact I2.lo
 have lo4:K4[r+1]?=Wv (.lst (a.map hU)):=by rw[F4.off _ (by omega)];exact lo3
 let K5:=K4.set (r+1) (.lst (a.map hU++[.tup [cL j,l]]))
 have ap2:aG (.ref (r+1)) [.tup [cL j,l]] K4= .ok .non K5:=by rw[GW,lo4,l8 (hz _)]
 have R5:Rep K5 n P S1 S1.bT:=R4.same λi h1 h2=>aV (by omega);have W1:=AV ok W ex es ec er hw hg;have HD:=pv T (k+17) ok W1 R5.cells;have can':run pg (k+20) "_law_can" [P.v,.ref n] K5= .ok (.ref K5.length) (K5++[.lst ((fN P S1).map cL)]):=HD;have out: ∀ i,i≠r->i≠r+1->(i < n\/n+7+3*P.hs.length<=i)->K5[i]?=K2[i]?:=λi h1 h2 h3=>by
  show(K4.set _ _)[i]?=_;rw[aV (λe=>h2 e.symm),F4.off i h3];exact aV λe=>h1 e.symm
 have lr2:=aC I2.ru;have lr3:r < K3.length:=by show r < (K2.set _ _).length;rw[Xa];exact lr2
 have I5:DI H fr n r P q2 S1 (a++[(j,gf,l)]) K5:=by
  refine⟨by rw[out 0 (by omega) (by omega) (by omega)];exact I2.z0,by rw[out 1 (by omega) (by omega) (by omega)];exact I2.z1,R5,?_,?_,λi h1 h2 h3=>by rw[out i (by omega) (by omega) h3];exact I2.off i h1 h2 h3⟩
  . show(K4.set _ _)[r]?=_;rw[aV (by omega),F4.off _ (by omega),Xl];exact kz lr2
  . show(K4.set _ _)[r+1]?=_;rw[kz (aC lo4),Xl];rfl
 refine⟨j,gf,l,S1,q2,K5++[.lst ((fN P S1).map cL)],K5.length,Wv (cL j),Wv gf,⟨x,s,cc,rw_,ex,es,ec,er,hw,hg,rfl,rfl⟩,I5.app _,aR,aC I5.lo,?_⟩;rw[<- hK0];have ru2:=I2.ru
 clear_value K3 K5 S1 l
 simp? [UL,ln,ev',ix1,ro',eg',ru2,↓ap1,lo3,go',lo4,↓ap2,can']
end
section
variable{pg:Tb}(T:bN pg)
include T
theorem Cg k (ok:P.Ok) (n2:2<=n) (nr:n+7+3*P.hs.length<=r) (W0:fI P N S0) (m9:N+m<=60): ∀ d f a S q Z c e7 e8,a.length+d=m->d < f->Wk P S0 a S->DI H fr n r P q S a Z->Z[c]?=Wv (.lst ((fN P S).map cL))->r+1 < c ->
  ∃(a':List (Nat × PV × PV))(S':Wd)(q':Int × Int × Int)(Z':PH)(c':Nat)(f7 f8:Option PV),a'.length<=m/\Wk P S0 a' S'/\DI H fr n r P q' S' a' Z' /\
   cF (K8 (run pg (k+20))) (UL (run pg (k+20))) f [Wv P.v,Wv (.ref 1),Wv (.ref n),Wv (.int (m)),Wv (.ref r),Wv (.ref (r+1)),Wv (.ref c),e7,e8] Z= .ok (.nx [Wv P.v,Wv (.ref 1),Wv (.ref n),Wv (.int (m)),Wv (.ref r),Wv (.ref (r+1)),Wv (.ref c'),f7,f8]) Z':=by
 intro d
 induction d with
 | zero =>
  intro f a S q Z c e7 e8 ha hf w I hc rc
  obtain⟨f,rfl⟩: ∃ j,f=j+1:=⟨f - 1,by omega⟩
  refine⟨a,S,q,Z++[.lst []],c,e7,e8,by omega,w,I.app _,?_⟩
  obtain⟨ds,d1,d2⟩:=Ln (fN P S)
  have ne:=Az (h:=Z++[.lst []]) (n:=c) (m:=Z.length) ((aw (aC hc)).trans hc) aR d1 d2
  have ru:=(I.app [.lst []]).ru
  have ln:bV [.ref r] (Z++[.lst []])= .ok (.int (a.length)) (Z++[.lst []]):=by rw[vY,ru,qy,Wy]
  have z: ¬ (a.length) < (m:Int):=by omega
  have tt:K8 (run pg (k+20)) [Wv P.v,Wv (.ref 1),Wv (.ref n),Wv (.int (m)),Wv (.ref r),Wv (.ref (r+1)),Wv (.ref c),e7,e8] Z= .ok false (Z++[.lst []]):=by
   by_cases q0:(fN P S).map cL=[]
   . have dt:=decide_eq_true q0;rw[dt] at ne;simp? [K8,ne]
   . have dt:=decide_eq_false q0;rw[dt] at ne;simp? [K8,ne,ln,z]
  rw[cF,tt,dm,if_neg W5]
 | succ d ih =>
  intro f a S q Z c e7 e8 ha hf w I hc rc
  obtain⟨f,rfl⟩: ∃ j,f=j+1:=⟨f - 1,by omega⟩
  obtain⟨ds,d1,d2⟩:=Ln (fN P S)
  have hc':(Z++[PO.lst []])[c]?=Wv (.lst ((fN P S).map cL)):=(aw (aC hc)).trans hc
  have ne:=Az (h:=Z++[.lst []]) (n:=c) (m:=Z.length) hc' aR d1 d2
  have I':=I.app [.lst []]
  have ru:=I'.ru
  have ln:bV [.ref r] (Z++[.lst []])= .ok (.int (a.length)) (Z++[.lst []]):=by rw[vY,ru,qy,Wy]
  have z:(a.length) < (m:Int):=by omega
  by_cases q0:(fN P S).map cL=[]
  . refine⟨a,S,q,Z++[.lst []],c,e7,e8,by omega,w,I',?_⟩;have dt:=decide_eq_true q0;rw[dt] at ne;have tt:K8 (run pg (k+20)) [Wv P.v,Wv (.ref 1),Wv (.ref n),Wv (.int (m)),Wv (.ref r),Wv (.ref (r+1)),Wv (.ref c),e7,e8] Z= .ok false (Z++[.lst []]):=by
     simp? [K8,ne]
    rw[cF,tt,dm,if_neg W5]
  . have dt:=decide_eq_false q0;rw[dt] at ne;have tt:K8 (run pg (k+20)) [Wv P.v,Wv (.ref 1),Wv (.ref n),Wv (.int (m)),Wv (.ref r),Wv (.ref (r+1)),Wv (.ref c),e7,e8] Z= .ok true (Z++[.lst []]):=by
     simp? [K8,ne,ln,z]
    have W:=w.ok ok W0;obtain⟨j,g,l,S1,q1,Z1,c1,f7,f8,st,I1,hc1,rc1,e1⟩:=Bn T k ok n2 nr W (by omega) (by omega) I' hc' rc (λe=>q0 (by rw[e];rfl)) (.int (m)) e7 e8;obtain⟨a',S',q',Z',c',g7,g8,h1,h2,h3,h4⟩:=ih f (a++[(j,g,l)]) S1 q1 Z1 c1 f7 f8 (by rw[WR,aaH];omega) (by omega) (w.app (.cons st (.nil _))) I1 hc1 rc1;exact⟨a',S',q',Z',c',g7,g8,h1,h2,h3,by rw[KN tt e1];exact h4⟩
theorem uD k {G:PH} (ok:P.Ok) (n2:2<=n) (W:fI P N S) (R:Rep (fr::bw q::G) n P S S.bT) (hl:n+7+3*P.hs.length<=(fr::bw q::G).length) (m9:N+m<=60) :
  ∃(a:List (Nat × PV × PV))(S':Wd)(q':Int × Int × Int)(G':PH),a.length<=m/\Wk P S a S'/\G'.length=G.length/\Rep (fr::bw q'::G') n P S' S'.bT/\(∀ i,i≠1->(i < n\/n+7+3*P.hs.length<=i)->(fr::bw q'::G')[i]?=(fr::bw q::G)[i]?) /\
   run pg (k+21) "_law_drawn" [P.v,.ref 1,.ref n,.int (m)] (fr::bw q::G)= .ok (.tup [.tup (a.map cV),.tup (a.map hU)]) (fr::bw q'::G'):=by
 obtain⟨H,hH⟩: ∃ H,H=fr::bw q::G:=⟨_,rfl⟩
 rw[<- hH] at R hl ⊢;have hm:=ok.many
 let r:=H.length
 have HD:=pv T (k+17) ok W (R.app [.lst [],.lst []]).cells;have can':run pg (k+20) "_law_can" [P.v,.ref n] (H++[.lst [],.lst []])= .ok (.ref (H.length+(0+1+1))) (H++[.lst [],.lst [],.lst ((fN P S).map cL)]):=by
  have:(H++[PO.lst [],.lst []]).length=H.length+(0+1+1):=by rw[WR];rfl
  rw[<- this];refine HD.trans ?_;rw[WV];rfl
 let Z0:=H++[.lst [],.lst [],.lst ((fN P S).map cL)]
 have I0:DI H fr n r P q S [] Z0:=⟨by show(H++_)[0]?=_;rw[hH];rfl,by show(H++_)[1]?=_;rw[hH];rfl,R.app _,aR,by show(H++_)[H.length+1]?=_;rw[aM];rfl,λi h1 _ _=>aw h1⟩
 obtain⟨a,S',q',Z',c',f7,f8,la,w,I,wh⟩:=Cg T k (H:=H) (fr:=fr) ok n2 hl W m9 m 100000 [] S q Z0 (H.length+(0+1+1)) Wx Wx (by simp) (by omega) (.nil S) I0 (by show(H++_)[_]?=_;rw[aM];rfl) (by omega);have W':=w.ok ok W;have sh:=w.sh ok (N:=N) (by omega) W;have lz:=aC I.ru;have tk: ∀ i,i < r->(Z'.take r)[i]?=Z'[i]?:=λi hi=>by rw[adz];simp[hi]
 obtain⟨G',hG'⟩:=tJ (H:=Z'.take r) (a:=fr) (b:=bw q') (by rw[tk 0 (by omega)];exact I.z0) (by rw[tk 1 (by omega)];exact I.z1);have lG:G'.length=G.length:=by
  have e1:(Z'.take r).length=r:=by rw[Xz];omega
  rw[hG'] at e1;have e2:r=(fr::bw q::G).length:=by show H.length=_;rw[hH]
  rw[e2] at e1;simpa using e1
 refine⟨a,S',q',G',la,w,lG,?_,λi h1 h2=>?_,?_⟩
 . rw[<- hG'];exact I.R.same λi h1 h2=>tk i (by omega)
 . rw[<- hG'];by_cases z:i < r
   . rw[tk i z];exact I.off i z h1 h2
   . rw[Yj (by rw[Xz];omega),Yj (by omega)]
 have fl:PV.flat (.tup [.tup (a.map cV),.tup (a.map hU)])=true:=by
  have s1:=Lm ok (by omega) sh;have f1:=jE _ s1.1.ok;have f2:=jE _ s1.2.ok;rw[PV.flat,PV.bo,PV.bo,PV.bo,f1,f2];rfl
 have se:=wK (h:=H) (h':=Z') fl (YY lz) λi o o' e e'=>by
  have hi:=aC e;by_cases z1:i=1
  . subst z1;rw[hH] at e;rw[I.z1] at e';cases e;cases e';exact .inr ⟨rfl,rfl⟩
  . by_cases z2:i < n\/n+7+3*P.hs.length<=i
    . rw[I.off i hi z1 z2,e] at e';exact .inl (Xx e')
    . exact Rep.drop R I.R W W' hl (by omega) (by omega) e e'
 have tu1:bf [.ref r] Z'= .ok (.tup (a.map cV)) Z':=by rw[oS,I.ru,lg]
 have tu2:bf [.ref (r+1)] Z'= .ok (.tup (a.map hU)) Z':=by rw[oS,I.lo,lg]
 rw[run_eq T.ve rfl,<- hG'];have A:iG (run pg (k+20)) [Wv P.v,Wv (.ref 1),Wv (.ref n),Wv (.int (m)),Wx,Wx,Wx,Wx,Wx] H= .ok (.rt (.tup [.tup (a.map cV),.tup (a.map hU)])) Z':=by
  show ae _ (ae _ (ae _ (ae _ _))) _ _ _=_;refine(ba (e1:=[Wv P.v,Wv (.ref 1),Wv (.ref n),Wv (.int (m)),Wv (.ref H.length),Wx,Wx,Wx,Wx]) (h1:=H++[.lst []]) ?_).trans ?_
  . simp? [Xc]
  refine(ba (e1:=[Wv P.v,Wv (.ref 1),Wv (.ref n),Wv (.int (m)),Wv (.ref H.length),Wv (.ref (H.length+(0+1))),Wx,Wx,Wx]) (h1:=H++[.lst [],.lst []]) ?_).trans ?_
  . simp? [Xc]
  refine(ba (e1:=[Wv P.v,Wv (.ref 1),Wv (.ref n),Wv (.int (m)),Wv (.ref H.length),Wv (.ref (H.length+(0+1))),Wv (.ref (H.length+(0+1+1))),Wx,Wx]) (h1:=Z0) ?_).trans ?_
  . simp? [can',Z0]
  refine(ba (e1:=[Wv P.v,Wv (.ref 1),Wv (.ref n),Wv (.int (m)),Wv (.ref r),Wv (.ref (r+1)),Wv (.ref c'),f7,f8]) (h1:=Z') ?_).trans ?_
  . exact wh
  . simp? [tu1,tu2]
 show fin _ (iG (run pg (k+20)) [Wv P.v,Wv (.ref 1),Wv (.ref n),Wv (.int (m)),Wx,Wx,Wx,Wx,Wx] H)=_;rw[A,jG];exact se
end
noncomputable def dI(c:List Int):List (Nat × PV × PV)->List Int
 | []=>[]
 | z::a=>(c[z.1]?).getD 0::dI (c.set z.1 ((c[z.1]?).getD 0+1)) a
def y8(z:(Nat × PV × PV) × Int):PV:= .tup [cL z.1.1,.int z.2]
def eA(z:(Nat × PV × PV) × Int):PV:= .tup [y8 z,z.1.2.2]
theorem zP: ∀ a c,(dI c a).length=a.length
 | [],_=>rfl
 | z::a,c=>by rw[dI,WE,WE,zP a]
theorem El: ∀(a:List (Nat × PV × PV)) ns,ns.length=a.length->xV ((a.zip ns).map y8) (a.map λz=>z.2.2)=(a.zip ns).map eA
 | [],_,_=>rfl
 | z::a,n::ns,h=>by
  have:=El a ns (by simpa using h);unfold xV at this ⊢;rw[aao,WH,WH,aao,WH,this];rfl
def Uu:=(ae (bS (eM aG bq (aa 3) (ab (aq (ab (aa 4) (ab (aj aB (aa 2) (aa 4)) ah))) ah)))
  (B7 (aa 2) (aa 4) (eI 1)))
section
variable{pg:Tb}(T:bN pg)
include T
theorem Ie k (h:PH) (hl:h[hh]?=Wv (.lst xs0)) e0 e1: ∀(a:List (Nat × PV × PV)) c es e4,(∀ z∈a,z.1 < c.length)->es.length+a.length<=1000 ->
  ∃(c':List Int)(f4:Option PV),bK ⟨Wv hh,xs0⟩ (br (gN 4) Uu (run pg k)) (a.map λz=>cL z.1) [e0,e1,Wv (.ref h.length),Wv (.ref (h.length+1)),e4] (h++[.lst (c.map PV.int),.lst es])= .ok (.nx [e0,e1,Wv (.ref h.length),Wv (.ref (h.length+1)),f4]) (h++[.lst (c'.map PV.int),.lst (es++(a.zip (dI c a)).map y8)]):=by
 intro a
 induction a with
 | nil=>intro c es e4 _ _;exact⟨c,e4,by rw[Xc,oO (cR ((aw (aC hl)).trans hl)),adY,Xc,Xr]⟩
 | cons z a ih =>
  intro c es e4 hz hn
  rw[WE] at hn
  have h1:=hz z (by simp)
  obtain⟨n,en⟩: ∃ n,c[z.1]?=Wv n:=⟨_,WD h1⟩
  obtain⟨c',f4,i1⟩:=ih (c.set z.1 (n+1)) (es++[y8 (z,n)]) (Wv (cL z.1)) (λy m=>by rw[Xa];exact hz y (by simp[m])) (by rw[WR];simp;omega)
  refine⟨c',f4,?_⟩
  have e5:es.length < 16777216:=by omega
  have ix: ∀ g:List PV,aB (.ref h.length) (cL z.1) (h++[.lst (c.map PV.int),.lst g])= .ok (.int n) (h++[.lst (c.map PV.int),.lst g]):=λg=>by unfold cL;rw[xl,aR,yK,bG (f:=PV.int) en];rfl
  have au: ∀ g:List PV,B7 (aa 2) (aa 4) (eI 1) (run pg k) [e0,e1,Wv (.ref h.length),Wv (.ref (h.length+1)),Wv (cL z.1)] (h++[.lst (c.map PV.int),.lst g])= .ok (.nx [e0,e1,Wv (.ref h.length),Wv (.ref (h.length+1)),Wv (cL z.1)]) (h++[.lst ((c.set z.1 (n+1)).map PV.int),.lst g]):=λg=>by
   refine OG (x:= .ref h.length) (y:=cL z.1) (u:= .int n) (v:= .int 1) (z:= .int (n+1)) rfl rfl (QD aR (by rw[WT,en];rfl)) rfl rfl ?_;unfold cL;rw[FL,aR,kc rfl (by rw[Wy];exact h1),fW,aam,adX]
  have st:br (gN 4) Uu (run pg k) (cL z.1) [e0,e1,Wv (.ref h.length),Wv (.ref (h.length+1)),e4] (h++[.lst (c.map PV.int),.lst es])= .ok (.nx [e0,e1,Wv (.ref h.length),Wv (.ref (h.length+1)),Wv (cL z.1)]) (h++[.lst ((c.set z.1 (n+1)).map PV.int),.lst (es++[y8 (z,n)])]):=by
   have ap:=l8 (n:=h.length+1) (v:=y8 (z,n)) (h:=h++[PO.lst (c.map PV.int),.lst es]) e5;unfold y8 at ap ⊢;have au':=au (es++[.tup [cL z.1,.int n]]);have ix':=ix es;simp? [Uu,ix',ap,au']
  rw[WH,k7 (cR ((aw (aC hl)).trans hl)),st,dc,cb,i1,dI,en,W9,aao,WH,WV]
  rfl
theorem ud k h {a:List (Nat × PV × PV)} (hl:h[hh]?=Wv (.lst (a.map λz=>cL z.1))) (hz: ∀ z∈a,z.1 < S.aZ.length) (hn:a.length<=1000) :
  ∃ o ,run pg (k+1) "events_by" [aJ S,.ref hh] h= .ok (.ref (h.length+1)) (h++[o,.lst ((a.zip (dI S.aZ a)).map y8)]):=by
 obtain⟨c',f4,lp⟩:=Ie T k h (xs0:=a.map λz=>cL z.1) hl (Wv (aJ S)) (Wv (.ref hh)) a S.aZ [] Wx hz (by simpa using hn);refine⟨.lst (c'.map PV.int),?_⟩;have i0: ∀ g,aB (aJ S) (.int 0) g= .ok (.tup (S.aZ.map PV.int)) g:=λg=>qq;have it:oE (.ref hh) (h++[.lst (S.aZ.map PV.int),.lst []])= .ok ⟨Wv hh,a.map λz=>cL z.1⟩ (h++[.lst (S.aZ.map PV.int),.lst []]):=by rw[pe,(aw (aC hl)).trans hl,tY]
 unfold Uu at lp;rw[run_eq T.vA rfl];simp? [gR,nV,i0,it,lp];exact bh rfl
theorem qr k h {a:List (Nat × PV × PV)} (hz: ∀ z∈a,z.1 < S.aZ.length) (hn:a.length<=100) :
  ∃ o1 o2 o3 o4 ,run pg (k+2) "with_events" [aJ S,.tup (a.map hU)] h= .ok (.ref (h.length+4)) (h++[o1,o2,o3,o4,.lst ((a.zip (dI S.aZ a)).map eA)]):=by
 have lc1: ∀(E:aQ)(H:PH),E.length=3->gL ⟨Wx,a.map hU⟩ (aO 2 (gT 2 (aA (gN 3) (aA (gN 4) cw))) aN (aa 3) (run pg (k+1)) E) (a.map hU) [] H= .ok (a.map λz=>cL z.1) H:=λE H hE=>by
  obtain⟨x,y,z,rfl⟩: ∃ x y z,E=[x,y,z]:=by
   match E,hE with
   | [x,y,z],_=>exact⟨x,y,z,rfl⟩
  refine CS (l:=a) (g:=hU) (f:=λz=>cL z.1) (by omega) λz m=>?_;simp? [hU]
 have lc2: ∀(E:aQ)(H:PH),E.length=3->gL ⟨Wx,a.map hU⟩ (aO 2 (gT 2 (aA (gN 3) (aA (gN 4) cw))) aN (aa 4) (run pg (k+1)) E) (a.map hU) [] H= .ok (a.map λz=>z.2.2) H:=λE H hE=>by
  obtain⟨x,y,z,rfl⟩: ∃ x y z,E=[x,y,z]:=by
   match E,hE with
   | [x,y,z],_=>exact⟨x,y,z,rfl⟩
  refine CS (l:=a) (g:=hU) (f:=λz=>z.2.2) (by omega) λz m=>?_;simp? [hU]
 obtain⟨o,ev⟩:=ud T k (h++[.lst (a.map λz=>cL z.1)]) (hh:=h.length) aR (S:=S) hz (by omega);refine⟨.lst (a.map λz=>cL z.1),o,.lst ((a.zip (dI S.aZ a)).map y8),.lst (a.map λz=>z.2.2),?_⟩;have l1:(h++[PO.lst (a.map λz=>cL z.1)]).length+1=h.length+2:=by simp
 have ev':=ev;have zz:Qj (.ref (h.length+2)) (.ref (h.length+3)) (h++[.lst (a.map λz=>cL z.1),o,.lst ((a.zip (dI S.aZ a)).map y8),.lst (a.map λz=>z.2.2)])= .ok (.ref (h.length+4)) (h++[.lst (a.map λz=>cL z.1),o,.lst ((a.zip (dI S.aZ a)).map y8),.lst (a.map λz=>z.2.2),.lst ((a.zip (dI S.aZ a)).map eA)]):=by
  rw[UU (xs:=(a.zip (dI S.aZ a)).map y8) (ys:=a.map λz=>z.2.2) (by rw[aM];rfl) (by rw[aM];rfl),El a _ (zP a _),WV,WR];rfl
 have A1:=lc1 [Wv (aJ S),Wv (.tup (a.map hU)),Wx] h rfl;have A2:=lc2 [Wv (aJ S),Wv (.tup (a.map hU)),Wv (.ref (h.length+2))] (h++[.lst (a.map λz=>cL z.1),o,.lst ((a.zip (dI S.aZ a)).map y8)]) rfl;rw[run_eq T.sf rfl];simp? [eV,ko,A1,ev',A2,zz];exact bh rfl
end
noncomputable def r9:PV->Str
 | .tup (_:: .str t::_)=>t
 | _=>WU ""
structure Lk(P:Pg)(l:PV):Prop where
 at_: ∃ w t a b,l= .tup [.str w,.str t,a,b]/\(t=WU "" \/ ∃ i,i < 4/\t∈P.nm i)
theorem Ep.AI(ok:P.Ok)(h:Ep P S j g l S1):Lk P l:=by
 obtain⟨x,s,c,r,ex,es,ec,er,hw,hg,eS,el⟩:=h.at_;have m:=WL er;have nn: ∀ k t,r.nm=Wv (k,t)->t∈P.nm k:=λk t q=>Lo ok ex m q;refine⟨r.w,r.tg,_,_,el,?_⟩;cases r<;>first | exact .inr ⟨0,by decide,nn _ _ rfl⟩ | exact .inr ⟨1,by decide,nn _ _ rfl⟩ | exact .inr ⟨2,by decide,nn _ _ rfl⟩ | exact .inr ⟨3,by decide,nn _ _ rfl⟩ | exact .inl rfl
theorem Wk.AI(ok:P.Ok)(h:Wk P S a S2): ∀ z∈a,Lk P z.2.2:=by
 induction h with
 | nil=>intro z m;cases m
 | cons st _ ih =>
  intro z m
  rcases WM.mp m with rfl | m
  . exact st.AI ok
  . exact ih z m
theorem SR{P:Pg}(ok:P.Ok)(m:t∈P.nm i):t≠WU "" :=by
 match i,m with
 | 0,m=>obtain⟨z,mz,rfl⟩:=Xk.mp m;exact Aw (ok.bx.2 z mz).1
 | 1,m=>exact Aw (ok.nm.1.2 t m).1
 | 2,m=>exact Aw (ok.nm.2.1.2 t m).1
 | (n+3),m=>exact Aw (ok.nm.2.2.2 t m).1
def isNm(P:Pg) t:= !((Xj 4).map λi=> !decide (t∈P.nm i)).all id
def dG P t (L:List ((Nat × PV × PV) × Int)):=if isNm P t=true then L.filter λz=>decide (r9 z.1.2.2=t) else[]
theorem EY:(cz.map λp=>kP p.1)=(Xj 4).map λi=>PV.str (m7 i):=rfl
section
variable{pg:Tb}(T:bN pg)
include T
theorem rL k h (ok:P.Ok) (W:fI P N S) (hN:N+a.length<=60) (w:Wk P S a S2) :
  ∃ o1 o2 o3 o4 ,run pg (k+16) "touches_of" [P.v,aJ S,.tup (a.map cV)] h= .ok (.ref (h.length+4)) (h++[o1,o2,o3,o4,.lst ((a.zip (dI S.aZ a)).map eA)]):=by
 have we:=sO T k h ok W hN w;have sh:=w.sh ok (N:=N) (by omega) W;obtain⟨o1,o2,o3,o4,wi⟩:=qr T (k+13) h (a:=a) (S:=S) (λz m=>by rw[W.lc];exact(sh z m).1) (by omega);refine⟨o1,o2,o3,o4,?_⟩;rw[run_eq T.uq rfl];simp? [fL,lK,we,wi];exact bh rfl
theorem yZ k h {P:Pg} (ok:P.Ok) i t: ∃ v ,run pg (k+2) "number_of" [P.v,.str (m7 i),.str t] h= .ok v h/\ ∀ g,gA false v g= .ok (.bl (!decide (t∈P.nm i))) g:=by
 by_cases m:t∈P.nm i
 . refine⟨_,m6 T k h ok m,λg=>?_⟩;rw[decide_eq_true m];rfl
 . refine⟨.non,?_,λg=>by rw[decide_eq_false m];rfl⟩;have n1:=wQ T k h P ok i;have e:(h++[PO.lst ((P.nm i).map PV.str)])[h.length]?=Wv (.lst ((P.nm i).map PV.str)):=aR;have i1:=NH e t;rw[run_eq T.om rfl];simp? [fj,jB,n1,i1,m];exact bU rfl
theorem xJ k h (ok:P.Ok) (W:fI P N S) (hN:N+a.length<=60) (w:Wk P S a S2) t :
  ∃(n:Nat)(X:PH),(h++X)[h.length+n]?=Wv (.lst ((dG P t (a.zip (dI S.aZ a))).map eA))/\run pg (k+17) "history" [P.v,aJ S,.tup (a.map cV),.str t] h= .ok (.ref (h.length+n)) (h++X):=by
 obtain⟨o1,o2,o3,o4,to⟩:=rL T k h ok W hN w;obtain⟨L,hL⟩: ∃ L,L=a.zip (dI S.aZ a):=⟨_,rfl⟩
 rw[<- hL] at to ⊢;have lL:L.length<=100:=by rw[hL,acB];omega
 have th:=w.AI ok;obtain⟨H,hH⟩: ∃ H,H=h++[o1,o2,o3,o4,.lst (L.map eA)]:=⟨_,rfl⟩
 have lH:H.length=h.length+5:=by rw[hH];simp
 rw[<- hH] at to
 let bs:=(Xj 4).map λi=> !decide (t∈P.nm i)
 have lc1:gL ⟨Wx,(Xj 4).map λi=>PV.str (m7 i)⟩ (aO 1 (gN 5) aN (xR (gA false) (ag "number_of" (a3 (aa 0) (aa 5) (aa 3)))) (run pg (k+16)) [Wv P.v,Wv (aJ S),Wv (.tup (a.map cV)),Wv (.str t),Wv (.ref (h.length+4))]) ((Xj 4).map λi=>PV.str (m7 i)) [] H= .ok (bs.map PV.bl) H:=by
  show _=RV.ok (((Xj 4).map _).map PV.bl) H;rw[XB];refine CS (l:=Xj 4) (g:=λi=>PV.str (m7 i)) (f:=PV.bl ∘ λi=> !decide (t∈P.nm i)) (by decide) λi _=>?_;obtain⟨v,e1,e2⟩:=yZ T (k+14) H ok i t;simp? [e1,e2];rfl
 have al:=QK (h:=H++[.lst (bs.map PV.bl)]) (n:=H.length) (bs:=bs) aR;cases hb:bs.all id with
 | true =>
  have e0:dG P t L=[]:=by
   have:isNm P t=false:=by show(!bs.all id)=false;rw[hb];rfl
   unfold dG;rw[this];rfl
  rw[hb] at al
  refine⟨6,[o1,o2,o3,o4,.lst (L.map eA),.lst (bs.map PV.bl),.lst []],by rw[aM,e0];rfl,?_⟩
  have hh:h++[o1,o2,o3,o4,.lst (L.map eA),.lst (bs.map PV.bl),.lst []]=H++[.lst (bs.map PV.bl),.lst []]:=by rw[hH,WV];rfl
  have h6:h.length+6=H.length+1:=by omega
  rw[hh,h6,run_eq T.sJ rfl]
  clear_value bs
  simp? [iC,nB,to,AM,EY,lc1,al]
  exact bh rfl
 | false =>
  have e0:dG P t L=L.filter λz=>decide (r9 z.1.2.2=t):=by
   have:isNm P t=true:=by show(!bs.all id)=true;rw[hb];rfl
   unfold dG;rw[this];rfl
  rw[hb] at al
  refine⟨6,[o1,o2,o3,o4,.lst (L.map eA),.lst (bs.map PV.bl),.lst ((dG P t L).map eA)],by rw[aM];rfl,?_⟩
  have hh:h++[o1,o2,o3,o4,.lst (L.map eA),.lst (bs.map PV.bl),.lst ((dG P t L).map eA)]=H++[.lst (bs.map PV.bl),.lst ((dG P t L).map eA)]:=by rw[hH,WV];rfl
  have h6:h.length+6=H.length+1:=by omega
  have it:oE (.ref (h.length+4)) (H++[.lst (bs.map PV.bl)])= .ok ⟨Wv (h.length+4),L.map eA⟩ (H++[.lst (bs.map PV.bl)]):=by
   rw[pe,hH,WV,aM];rfl
  have fi:uj.kC ⟨Wv (h.length+4),L.map eA⟩ (H++[.lst (bs.map PV.bl)])=true:=cR (by rw[hH,WV,aM];rfl)
  have lc2:gL ⟨Wv (h.length+4),L.map eA⟩ (aO 1 (gN 5) (aF (aj kb (aj aB (eX 5 1) (eI 1)) (aa 3))) (aa 5) (run pg (k+16)) [Wv P.v,Wv (aJ S),Wv (.tup (a.map cV)),Wv (.str t),Wv (.ref (h.length+4))]) (L.map eA) [] (H++[.lst (bs.map PV.bl)])= .ok ((dG P t L).map eA) (H++[.lst (bs.map PV.bl)]):=by
   rw[e0];refine(dW fi L [] (f:=λz=>if decide (r9 z.1.2.2=t)=true then Wv (eA z) else Wx) (g:=eA) (λz m=>?_) (by simp;omega)).trans ?_
   . have mz:z.1∈a:=by rw[hL] at m;exact(Zz m).1
     obtain⟨w0,u,x,y,el,_⟩:=(th _ mz).at_;have eq: ∀ g,aB z.1.2.2 (.int 1) g= .ok (.str u) g:=λg=>by rw[el];exact jf
     have et:r9 z.1.2.2=u:=by rw[el];rfl
     rw[et];by_cases c:u=t
     . simp? [eA,eq,c]
     . simp? [eA,eq,c]
   . rw[XF,<- aaf,abv];congr 2
     funext z
     by_cases c:r9 z.1.2.2=t
     . simp[c,aaG]
     . simp[c,aaG]
  rw[hh,h6,run_eq T.sJ rfl]
  clear_value bs
  simp? [iC,nB,to,AM,EY,lc1,al,it,lc2]
  exact bh rfl
end
def leB:=(ae (bS (eM aG bq (aa 3) (ab (aq (ab (aq (ab (aa 4) (ab (aj aB (aa 2) (aa 4)) ah))) (a1 (aa 5)))) ah)))
  (fQ dM (aa 2) (aa 4) (aj aU (aj aB (aa 2) (aa 4)) (eI 1))))
def Uk:=(gT 2 (aA (gN 4) (aA (gN 5) cw)))
theorem pK: ∀ a c d n,(∀ z∈a,z.1 < n)->n<=c.length->n<=d.length->(∀ j,j < n->c[j]?=d[j]?)->dI c a=dI d a
 | [],_,_,_,_,_,_,_=>rfl
 | z::a,c,d,n,h,lc,ld,e=>by
  have h1:=h z (by simp);have i1:=pK a (c.set z.1 ((d[z.1]?).getD 0+1)) (d.set z.1 ((d[z.1]?).getD 0+1)) n (λy m=>h y (by simp[m])) (by rw[Xa];exact lc) (by rw[Xa];exact ld) λj hj=>by
   rw[abG,abG,e j hj];by_cases q:z.1=j
   . rw[if_pos q,if_pos q,if_pos (by omega),if_pos (by omega)]
   . rw[if_neg q,if_neg q]
  rw[dI,dI,e z.1 h1,i1]
section
variable{pg:Tb}(T:bN pg)
include T
theorem IK k (h:PH) xs0 e0 e1: ∀(a:List (Nat × PV × PV)) c es e4 e5,(∀ z∈a,z.1 < c.length)->es.length+a.length<=1000 ->
  ∃(c':List Int)(f4 f5:Option PV),bK ⟨Wx,xs0⟩ (br Uk leB (run pg k)) (a.map hU) [e0,e1,Wv (.ref h.length),Wv (.ref (h.length+1)),e4,e5] (h++[.lst (c.map PV.int),.lst es])= .ok (.nx [e0,e1,Wv (.ref h.length),Wv (.ref (h.length+1)),f4,f5]) (h++[.lst (c'.map PV.int),.lst (es++(a.zip (dI c a)).map eA)]):=by
 intro a
 induction a with
 | nil=>intro c es e4 e5 _ _;exact⟨c,e4,e5,by rw[Xc,gJ,adY,Xc,Xr]⟩
 | cons z a ih =>
  intro c es e4 e5 hz hn
  rw[WE] at hn
  have h1:=hz z (by simp)
  obtain⟨n,en⟩: ∃ n,c[z.1]?=Wv n:=⟨_,WD h1⟩
  obtain⟨c',f4,f5,i1⟩:=ih (c.set z.1 (n+1)) (es++[eA (z,n)]) (Wv (cL z.1)) (Wv z.2.2) (λy m=>by rw[Xa];exact hz y (by simp[m])) (by rw[WR];simp;omega)
  refine⟨c',f4,f5,?_⟩
  have e5':es.length < 16777216:=by omega
  have ix: ∀ g:List PV,aB (.ref h.length) (cL z.1) (h++[.lst (c.map PV.int),.lst g])= .ok (.int n) (h++[.lst (c.map PV.int),.lst g]):=λg=>by unfold cL;rw[xl,aR,yK,bG (f:=PV.int) en];rfl
  have pu: ∀ g:List PV,dM (.ref h.length) (cL z.1) (.int (n+1)) (h++[.lst (c.map PV.int),.lst g])= .ok () (h++[.lst ((c.set z.1 (n+1)).map PV.int),.lst g]):=λg=>by
   unfold cL;rw[FL,aR,kc rfl (by rw[Wy];exact h1),fW,aam,adX]
  have st:br Uk leB (run pg k) (hU z) [e0,e1,Wv (.ref h.length),Wv (.ref (h.length+1)),e4,e5] (h++[.lst (c.map PV.int),.lst es])= .ok (.nx [e0,e1,Wv (.ref h.length),Wv (.ref (h.length+1)),Wv (cL z.1),Wv z.2.2]) (h++[.lst ((c.set z.1 (n+1)).map PV.int),.lst (es++[eA (z,n)])]):=by
   have ap:=l8 (n:=h.length+1) (v:=eA (z,n)) (h:=h++[PO.lst (c.map PV.int),.lst es]) e5';unfold eA y8 at ap ⊢;have pu':=pu (es++[.tup [.tup [cL z.1,.int n],z.2.2]]);have ix1:=ix es;have ix2:=ix (es++[.tup [.tup [cL z.1,.int n],z.2.2]]);simp? [Uk,leB,hU,ix1,ap,ix2,↓pu']
  rw[WH,eK,st,dc,cb,i1,dI,en,W9,aao,WH,WV]
  rfl
theorem ki k h (hc:h[n]?=Wv (.lst (c.map PV.int))) {a:List (Nat × PV × PV)} (hz: ∀ z∈a,z.1 < c.length) (hn:a.length<=1000) :
  ∃ o ,run pg (k+1) "_law_events" [.ref n,.tup (a.map hU)] h= .ok (.ref (h.length+1)) (h++[o,.lst ((a.zip (dI c a)).map eA)]):=by
 obtain⟨c',f4,f5,lp⟩:=IK T k h (a.map hU) (Wv (.ref n)) (Wv (.tup (a.map hU))) a c [] Wx Wx hz (by simpa using hn);refine⟨.lst (c'.map PV.int),?_⟩;have li:jd [.ref n] h= .ok (.ref h.length) (h++[.lst (c.map PV.int)]):=by rw[DX,hc,Aq]
 unfold Uk leB at lp;rw[run_eq T.sF rfl];simp? [eQ,kl,li,lp];exact bh rfl
end
def Hs t (L:List ((Nat × PV × PV) × Int)):=L.filter λz=>decide (r9 z.1.2.2=t)&& !decide (t=WU "")
theorem IP(ok:P.Ok)(th: ∀ z∈L,Lk P z.1.2.2) t:Hs t L=dG P t L:=by
 unfold Hs dG;by_cases m: ∃ i,i < 4/\t∈P.nm i
 . obtain⟨i,hi,mi⟩:=m;have ne:=SR ok mi;have:isNm P t=true:=by
    unfold isNm;rw[YC,List.all_eq_false];exact⟨!decide (t∈P.nm i),Xk.mpr ⟨i,YR.mpr hi,rfl⟩,by simp[mi]⟩
   rw[this];simp[ne]
 . have:isNm P t=false:=by
    unfold isNm;rw[Bool.not_eq_false',ZU];intro b hb;obtain⟨i,hi,rfl⟩:=Xk.mp hb;have:t ∉ P.nm i:=λq=>m ⟨i,YR.mp hi,q⟩;simp[this]
   rw[this,if_neg (by decide),List.filter_eq_nil_iff];intro z mz q;rw[WX,decide_eq_true_eq] at q;obtain⟨w,u,x,y,el,hu⟩:=(th z mz).at_;have eu:r9 z.1.2.2=u:=by rw[el];rfl
   rw[eu] at q;obtain⟨rfl,q⟩:=q;rcases hu with rfl | hu
   . simp at q
   . exact m hu
def Sg:=(ae (ai (ag "history" (ab (aa 0) (a3 (aa 1) (aa 2) (aa 6)))) (gN 9))
  (ae (bW (HV (nF (aF (eB nK (ab (aa 9) (ab (eC (.ty "list")) ah))))) (aF (aj ke (eB eG (a1 (aa 9))) (eB eG (a1 (aa 7)))))) (ay (eC (.bl false))) cE)
  (bS (eM aG bq (aa 9) (a1 (eC .non))))))
def Ut:=(ae (ai (je 2 (jh (aa 3)) (gT 2 (aA (gN 10) (aA (gN 11) cw))) (lT (aF (aj kb (eX 11 1) (aa 6))) (aF (aj ke (aa 6) (eS "")))) (aq (a2 (aa 10) (aa 11)))) (gN 7))
  (ja (cO (a1 (eI 2))) (gN 8) Sg))
theorem Q6(e:h[n]?=Wv (.lst xs)):nK [.ref n,.ty "list"] h= .ok (.bl true) h:=by
 have:tyP h (.ref n)=Ty.of "list" :=by simp[tyP,e];rfl
 simp only[nK,this];rfl
theorem C8: ∀ a c m,(∀ x∈c,0<=x/\x<=m)->0<=m-> ∀ n∈dI c a,0<=n/\n<=m+a.length
 | [],_,_,_,_=>λn q=>by cases q
 | z::a,c,m,h,h0=>λn q=>by
  have g:0<=(c[z.1]?).getD 0/\(c[z.1]?).getD 0<=m:=by
   cases e:c[z.1]? with
   | none=>exact⟨Int.le_refl _,h0⟩
   | some y=>exact h y (WL e)
  rw[WE];rcases WM.mp q with rfl | q
  . exact⟨g.1,by omega⟩
  . have:=C8 a (c.set z.1 ((c[z.1]?).getD 0+1)) (m+1) (λx mx=>by
     rcases XG mx with y | y
     . have:=h x y;omega
     . omega) (by omega) n q
    omega
theorem RZ{P:Pg}{L:List ((Nat × PV × PV) × Int)}(h: ∀ z∈L,z.1.1 < 4/\Sh 60 2 z.1.2.2/\0<=z.2/\z.2<=1000): ∀ z∈L,Sh 100 3 (eA z):=λz m=>by
 obtain⟨h1,h2,h3,h4⟩:=h z m;have e1:Sh 2 1 (y8 z):=(de 0 (bR (i:=((z.1.1))) (by omega) (by omega)) (de 0 (bR h3 (by omega)) (oM 0))).up;exact(de 2 e1 (de 2 h2 (oM 2))).up
section
variable{pg:Tb}(T:bN pg)
include T
theorem Ad k H (ok:P.Ok) (W:fI P N S) (hN:N+a.length<=60) (w:Wk P S a S2) (sx: ∀ g n,g[n]?=Wv (.lst ((dG P t (a.zip (dI S.aZ a))).map eA))->eG [.ref n] g= .ok (.str x) g) (hd:H[d]?=Wv (.lst ((dG P t (a.zip (dI S.aZ a))).map eA))) i e3 e4 e5 e8 e9 :
  ∃(X:PH)(f9:Option PV),br (gN 8) Sg (run pg (k+17)) (.int i) [Wv P.v,Wv (aJ S),Wv (.tup (a.map cV)),e3,e4,e5,Wv (.str t),Wv (.ref d),e8,e9] H= .ok (.nx [Wv P.v,Wv (aJ S),Wv (.tup (a.map cV)),e3,e4,e5,Wv (.str t),Wv (.ref d),Wv (.int i),f9]) (H++X):=by
 obtain⟨n,X,en,he⟩:=xJ T k H ok W hN w t;have lt:(dG P t (a.zip (dI S.aZ a))).length<=60:=by
  refine Xb (m:=(a.zip (dI S.aZ a)).length) ?_ (by rw[acB];omega);unfold dG;split
  . exact Y5 _ _
  . exact Xv _
 obtain⟨ys,hy⟩: ∃ ys,ys=(dG P t (a.zip (dI S.aZ a))).map eA:=⟨_,rfl⟩
 have ly:ys.length < 16777216:=by rw[hy,Wy];omega
 rw[<- hy] at en hd sx;refine⟨X.set n (.lst (ys++[.non])),Wv (.ref (H.length+n)),?_⟩;have s1:=sx _ _ en;have s2:=sx _ d ((aw (g:=X) (aC hd)).trans hd);have is:=Q6 en;have ap:aG (.ref (H.length+n)) [.non] (H++X)= .ok .non (H++X.set n (.lst (ys++[.non]))):=by rw[GW,en,l8 ly,pb]
 have ml: ∀ c e,TV aG bq (a1 (eC .non)) c e (.ref (H.length+n)) (H++X)= .ok .non (H++X.set n (.lst (ys++[.non]))):=λc e=>by
  rw[KI,en];exact ap
 simp? [Sg,he,is,s1,s2,ml]
theorem Ga k H (ok:P.Ok) (W:fI P N S) (hN:N+a.length<=60) (w:Wk P S a S2) (he:H[ev]?=Wv (.lst ((a.zip (dI S.aZ a)).map eA))) t e4 e5 e6 e7 e8 e9 :
  ∃(X:PH)(f7 f8 f9:Option PV),br (gN 6) Ut (run pg (k+17)) (.str t) [Wv P.v,Wv (aJ S),Wv (.tup (a.map cV)),Wv (.ref ev),e4,e5,e6,e7,e8,e9] H= .ok (.nx [Wv P.v,Wv (aJ S),Wv (.tup (a.map cV)),Wv (.ref ev),e4,e5,Wv (.str t),f7,f8,f9]) (H++X):=by
 have hm:=ok.many;have sh:=w.sh ok (N:=N) (by omega) W;have th:=w.AI ok;have thL: ∀ z∈a.zip (dI S.aZ a),Lk P z.1.2.2:=λz m=>th _ (Zz m).1;have lL:(a.zip (dI S.aZ a)).length<=60:=by rw[acB];omega
 have nL: ∀ z∈a.zip (dI S.aZ a),z.1.1 < 4/\Sh 60 2 z.1.2.2/\0<=z.2/\z.2<=1000:=λz m=>by
  have m1:=Zz m;have s1:=sh _ m1.1;have:=C8 a S.aZ (N) (λx mx=>W.ct x mx) (by omega) z.2 m1.2;exact⟨by omega,s1.2.2,this.1,by omega⟩
 have du:=IP ok thL t;have subL: ∀ z∈dG P t (a.zip (dI S.aZ a)),z∈a.zip (dI S.aZ a):=λz m=>by
  unfold dG at m;split at m
  . exact(YG.mp m).1
  . cases m
 have lH:(dG P t (a.zip (dI S.aZ a))).length<=60:=by
  rw[<- du];unfold Hs;exact Xb (Y5 _ _) lL
 have shT:=fC (f:=eA) (l:=dG P t (a.zip (dI S.aZ a))) 60 lH (RZ (P:=P) λz m=>nL z (subL z m));obtain⟨x,sx⟩: ∃ x ,∀ g n,g[n]?=Wv (.lst ((dG P t (a.zip (dI S.aZ a))).map eA))->eG [.ref n] g= .ok (.str x) g:=by
  have h1:=shT.ok;have h2:=shT.bk;have h3:=shT.dp;rw[zt] at h1;rw[Iz] at h2;rw[Gk] at h3;exact NW h1 (by omega) (by omega)
 have hd:(H++[PO.lst ((dG P t (a.zip (dI S.aZ a))).map eA)])[H.length]?=Wv (.lst ((dG P t (a.zip (dI S.aZ a))).map eA)):=aR;obtain⟨X1,f9,t1⟩:=Ad T k (H++[PO.lst ((dG P t (a.zip (dI S.aZ a))).map eA)]) ok W hN w sx hd 0 (Wv (.ref ev)) e4 e5 e8 e9;obtain⟨X2,g9,t2⟩:=Ad T k (H++[PO.lst ((dG P t (a.zip (dI S.aZ a))).map eA)]++X1) ok W hN w sx ((aw (aC hd)).trans hd) 1 (Wv (.ref ev)) e4 e5 (Wv (.int 0)) f9;have it:oE (.ref ev) H= .ok ⟨Wv ev,(a.zip (dI S.aZ a)).map eA⟩ H:=by rw[pe,he,tY]
 have lc:gL ⟨Wv ev,(a.zip (dI S.aZ a)).map eA⟩ (aO 2 (gT 2 (aA (gN 10) (aA (gN 11) cw))) (lT (aF (aj kb (eX 11 1) (aa 6))) (aF (aj ke (aa 6) (eS "")))) (aq (a2 (aa 10) (aa 11))) (run pg (k+17)) [Wv P.v,Wv (aJ S),Wv (.tup (a.map cV)),Wv (.ref ev),e4,e5,Wv (.str t),e7,e8,e9]) ((a.zip (dI S.aZ a)).map eA) [] H= .ok ((dG P t (a.zip (dI S.aZ a))).map eA) H:=by
  rw[<- du];refine(dW (cR he) (a.zip (dI S.aZ a)) [] (f:=λz=>if (decide (r9 z.1.2.2=t)&& !decide (t=WU ""))=true then Wv (eA z) else Wx) (g:=eA) (λz m=>?_) (by simp;omega)).trans ?_
  . obtain⟨w0,u,x,y,el,_⟩:=(thL z m).at_;have eq: ∀ g,aB z.1.2.2 (.int 1) g= .ok (.str u) g:=λg=>by rw[el];exact jf
    have et:r9 z.1.2.2=u:=by rw[el];rfl
    rw[et];by_cases c:u=t
    . by_cases c2:t=WU ""
      . simp? [eA,eq,c,c2,aeA,ZJ,adl]
      . simp? [eA,eq,c,c2,aeA,ZJ,adl]
    . simp? [eA,eq,c,acP]
  . unfold Hs;rw[XF,<- aaf,abv];congr 2
    funext z
    by_cases c:(decide (r9 z.1.2.2=t)&& !decide (t=WU ""))=true
    . simp[c,aaG]
    . simp[c,aaG]
 refine⟨[.lst ((dG P t (a.zip (dI S.aZ a))).map eA)]++X1++X2,Wv (.ref H.length),Wv (.int 1),g9,?_⟩;have r2:aH 0 2=[.int 0,.int 1]:=rfl;have lp:bK ⟨Wx,aH 0 2⟩ (br (gN 8) Sg (run pg (k+17))) (aH 0 2) [Wv P.v,Wv (aJ S),Wv (.tup (a.map cV)),Wv (.ref ev),e4,e5,Wv (.str t),Wv (.ref H.length),e8,e9] (H++[.lst ((dG P t (a.zip (dI S.aZ a))).map eA)])= .ok (.nx [Wv P.v,Wv (aJ S),Wv (.tup (a.map cV)),Wv (.ref ev),e4,e5,Wv (.str t),Wv (.ref H.length),Wv (.int 1),g9]) (H++([.lst ((dG P t (a.zip (dI S.aZ a))).map eA)]++X1++X2)):=by
  rw[r2,eK,t1,dc,cb,eK,t2,dc,cb,gJ,WV,WV,WV]
 unfold Ut;generalize dG P t (a.zip (dI S.aZ a))=F at *;have tt:ace (2:Int)=2:=rfl;simp? [it,lc,↓uZ,↓yn,uX,↓KR,C6,↓Gb,tt,oR,lp]
end
section
variable{pg:Tb}(T:bN pg)
include T
theorem CB k H (ok:P.Ok) (W:fI P N S) (hN:N+a.length<=60) (w:Wk P S a S2) (he:H[ev]?=Wv (.lst ((a.zip (dI S.aZ a)).map eA))) (hx:H[nl]?=Wv (.lst xs0)) e4 e5: ∀(ss:List Str) Y e6 e7 e8 e9,
  ∃(Z:PH)(f6 f7 f8 f9:Option PV),bK ⟨Wv nl,xs0⟩ (br (gN 6) Ut (run pg (k+17))) (ss.map PV.str) [Wv P.v,Wv (aJ S),Wv (.tup (a.map cV)),Wv (.ref ev),e4,e5,e6,e7,e8,e9] (H++Y)= .ok (.nx [Wv P.v,Wv (aJ S),Wv (.tup (a.map cV)),Wv (.ref ev),e4,e5,f6,f7,f8,f9]) (H++Z):=by
 intro ss
 induction ss with
 | nil=>intro Y e6 e7 e8 e9;exact⟨Y,e6,e7,e8,e9,oO (cR ((aw (aC hx)).trans hx))⟩
 | cons t ss ih =>
  intro Y e6 e7 e8 e9
  obtain⟨X,f7,f8,f9,st⟩:=Ga T k (H++Y) ok W hN w ((aw (aC he)).trans he) t e4 e5 e6 e7 e8 e9
  obtain⟨Z,g6,g7,g8,g9,lp⟩:=ih (Y++X) (Wv (.str t)) f7 f8 f9
  refine⟨Z,g6,g7,g8,g9,?_⟩
  rw[WH,k7 (cR ((aw (aC hx)).trans hx)),st,WV]
  exact lp
def Uj:=(ai (aj aU (aa 4) (eB jd (a1 (aa 5)))) (gN 4))
theorem Dv c h xs0 e0 e1 e2 e3 e6 e7 e8 e9: ∀(ts:List (List Str))(ns:List Str) n Y e5,(∀ s∈ts,s.length<=20)->ns.length+20*ts.length<=1000->(h++Y)[n]?=Wv (.lst (ns.map PV.str)) ->
  ∃(ns':List Str)(n':Nat)(Z:PH)(f5:Option PV),ns'.length<=1000/\(h++Z)[n']?=Wv (.lst (ns'.map PV.str))/\bK ⟨Wx,xs0⟩ (br (gN 5) Uj c) (ts.map λs=>PV.tup (s.map PV.str)) [e0,e1,e2,e3,Wv (.ref n),e5,e6,e7,e8,e9] (h++Y)= .ok (.nx [e0,e1,e2,e3,Wv (.ref n'),f5,e6,e7,e8,e9]) (h++Z):=by
 intro ts
 induction ts with
 | nil=>intro ns n Y e5 _ hl en;exact⟨ns,n,Y,e5,by simpa using hl,en,gJ⟩
 | cons s ts ih =>
  intro ns n Y e5 hs hl en
  rw[WE] at hl
  have l1:=hs s (by simp)
  have en':(h++Y++[PO.lst (s.map PV.str)])[n]?=Wv (.lst (ns.map PV.str)):=(aw (aC en)).trans en
  have ad:aU (.ref n) (.ref (h++Y).length) (h++Y++[.lst (s.map PV.str)])= .ok (.ref (h++Y++[PO.lst (s.map PV.str)]).length) (h++(Y++[.lst (s.map PV.str),.lst ((ns++s).map PV.str)])):=by
   rw[j7 (xs:=ns.map PV.str) (ys:=s.map PV.str) en' aR (by simp only[Wy];omega),Xl];simp
  obtain⟨ns',n',Z,f5,h1,h2,lp⟩:=ih (ns++s) (h++Y++[PO.lst (s.map PV.str)]).length (Y++[.lst (s.map PV.str),.lst ((ns++s).map PV.str)]) (Wv (.tup (s.map PV.str))) (λu m=>hs u (by simp[m])) (by rw[WR];omega) (by
   have e:h++(Y++[PO.lst (s.map PV.str),.lst ((ns++s).map PV.str)])=(h++Y++[PO.lst (s.map PV.str)])++[.lst ((ns++s).map PV.str)]:=by simp
   rw[e];exact aR)
  refine⟨ns',n',Z,f5,h1,h2,?_⟩
  have st:br (gN 5) Uj c (.tup (s.map PV.str)) [e0,e1,e2,e3,Wv (.ref n),e5,e6,e7,e8,e9] (h++Y)= .ok (.nx [e0,e1,e2,e3,Wv (.ref (h++Y++[PO.lst (s.map PV.str)]).length),Wv (.tup (s.map PV.str)),e6,e7,e8,e9]) (h++(Y++[.lst (s.map PV.str),.lst ((ns++s).map PV.str)])):=by
   generalize h++Y=K at ad;generalize (K++[PO.lst (s.map PV.str)]).length=m at ad;simp? [Uj,↓ad]
  rw[WH,eK,st,dc,cb]
  exact lp
theorem nY k h (ok:P.Ok) (W:fI P N S) (hN:N+a.length<=60) (w:Wk P S a S2) (he:h[ev]?=Wv (.lst ((a.zip (dI S.aZ a)).map eA))) :
  run pg (k+18) "_law_is_told" [P.v,aJ S,.tup (a.map cV),.ref ev] h= .ok (.bl true) h:=by
 have b20:=ok.bx.1;have hm:=ok.many
 let n0:=P.bs.map (·.1)
 let nh:=P.hs.map (·.1)
 let ex:=[WU "",WU "p",WU "get",WU "Zz",WU "a b"]
 have i0: ∀ g,aB P.v (.int 0) g= .ok (.tup (P.bs.map d8)) g:=λg=>qq;have i4: ∀ g,aB P.v (.int 4) g= .ok (.tup (P.hs.map bz)) g:=λg=>uE;have sl: ∀ g,Am P.v (Wv 1) (Wv 4) g= .ok (.tup ([P.s1,P.s2,P.s3].map λs=>PV.tup (s.map PV.str))) g:=λg=>rfl;have lc1: ∀(E:aQ)(g:PH),E.length=10->gL ⟨Wx,P.bs.map d8⟩ (aO 1 (gN 10) aN (eX 10 0) (run pg (k+17)) E) (P.bs.map d8) [] g= .ok (n0.map PV.str) g:=λE g hE=>by
  show _=RV.ok ((P.bs.map _).map PV.str) g;rw[XB]
  match E,hE with
  | [x0,x1,x2,x3,x4,x5,x6,x7,x8,x9],_ =>
   refine CS (l:=P.bs) (f:=PV.str ∘ λz:Str × Int=>z.1) (by omega) λx _=>?_
   simp? [d8]
   rfl
 have lc2: ∀(E:aQ)(g:PH),E.length=10->gL ⟨Wx,P.hs.map bz⟩ (aO 1 (gN 10) aN (eX 10 0) (run pg (k+17)) E) (P.hs.map bz) [] g= .ok (nh.map PV.str) g:=λE g hE=>by
  show _=RV.ok ((P.hs.map _).map PV.str) g;rw[XB]
  match E,hE with
  | [x0,x1,x2,x3,x4,x5,x6,x7,x8,x9],_ =>
   refine CS (l:=P.hs) (f:=PV.str ∘ λz:Str × List Rw=>z.1) (by omega) λx _=>?_
   simp? [bz]
   rfl
 have l0:n0.length<=20:=by show(P.bs.map _).length<=20;rw[Wy];exact b20
 have lh:nh.length<=4:=by show(P.hs.map _).length<=4;rw[Wy];exact hm.2
 obtain⟨ns,nn,Z,f5,l1,en,ad⟩:=Dv T (run pg (k+17)) h ([P.s1,P.s2,P.s3].map λs=>PV.tup (s.map PV.str)) (Wv P.v) (Wv (aJ S)) (Wv (.tup (a.map cV))) (Wv (.ref ev)) Wx Wx Wx Wx [P.s1,P.s2,P.s3] n0 h.length [.lst (n0.map PV.str)] Wx (λs m=>by
  simp only[WM,W4,or_false] at m;rcases m with rfl | rfl | rfl
  . exact ok.nm.1.1
  . exact ok.nm.2.1.1
  . exact ok.nm.2.2.1) (by simp only[WE,Xf];omega) aR
 obtain⟨K,hK⟩: ∃ K,K=h++Z:=⟨_,rfl⟩
 let K2:=K++[.lst (ex.map PV.str),.lst ((ns++ex).map PV.str),.lst (nh.map PV.str),.lst ((ns++ex++nh).map PV.str)]
 rw[<- hK] at en ad;have heK:K2[ev]?=Wv (.lst ((a.zip (dI S.aZ a)).map eA)):=by
  show(K++_)[ev]?=_;rw[hK,WV,aw (aC he)];exact he
 have hx:K2[K.length+3]?=Wv (.lst ((ns++ex++nh).map PV.str)):=by show(K++_)[_]?=_;rw[aM];rfl
 obtain⟨Z2,f6,f7,f8,f9,lp⟩:=CB T k K2 ok W hN w heK hx (Wv (.ref nn)) f5 (ns++ex++nh) [] Wx Wx Wx Wx;rw[Xr] at lp;have a1':aU (.ref nn) (.ref K.length) (K++[.lst (ex.map PV.str)])= .ok (.ref (K.length+1)) (K++[.lst (ex.map PV.str),.lst ((ns++ex).map PV.str)]):=by
  rw[j7 (xs:=ns.map PV.str) (ys:=ex.map PV.str) ((aw (aC en)).trans en) aR (by simp only[Wy];show _+5<=_;omega),Xl,WR,WV];rfl
 have a2':aU (.ref (K.length+1)) (.ref (K.length+2)) (K++[.lst (ex.map PV.str),.lst ((ns++ex).map PV.str),.lst (nh.map PV.str)])= .ok (.ref (K.length+3)) K2:=by
  rw[j7 (xs:=(ns++ex).map PV.str) (ys:=nh.map PV.str) (by rw[aM];rfl) (by rw[aM];rfl) (by simp only[Wy,WR];show _+5+_<=_;omega),<- Xl,WR,WV];rfl
 have it:oE (.ref (K.length+3)) K2= .ok ⟨Wv (K.length+3),(ns++ex++nh).map PV.str⟩ K2:=by rw[pe,hx,tY]
 have A:gv (run pg (k+17)) [Wv P.v,Wv (aJ S),Wv (.tup (a.map cV)),Wv (.ref ev),Wx,Wx,Wx,Wx,Wx,Wx] h= .ok (.rt (.bl true)) (K2++Z2):=by
  show ae _ (ae _ (ae _ _)) _ _ _=_;refine(ba (e1:=[Wv P.v,Wv (aJ S),Wv (.tup (a.map cV)),Wv (.ref ev),Wv (.ref h.length),Wx,Wx,Wx,Wx,Wx]) (h1:=h++[.lst (n0.map PV.str)]) ?_).trans ?_
  . have c1:=lc1 [Wv P.v,Wv (aJ S),Wv (.tup (a.map cV)),Wv (.ref ev),Wx,Wx,Wx,Wx,Wx,Wx] h rfl
    clear_value n0
    simp? [i0,c1]
  refine(ba (e1:=[Wv P.v,Wv (aJ S),Wv (.tup (a.map cV)),Wv (.ref ev),Wv (.ref nn),f5,Wx,Wx,Wx,Wx]) (h1:=K) ?_).trans ?_
  . unfold Uj at ad;generalize h++[PO.lst (n0.map PV.str)]=J at ad;generalize ([P.s1,P.s2,P.s3].map λs=>PV.tup (s.map PV.str))=ts at ad sl;simp? [sl,ad]
  refine(ba (e1:=[Wv P.v,Wv (aJ S),Wv (.tup (a.map cV)),Wv (.ref ev),Wv (.ref nn),f5,f6,f7,f8,f9]) (h1:=K2++Z2) ?_).trans ?_
  . have c2:=lc2 [Wv P.v,Wv (aJ S),Wv (.tup (a.map cV)),Wv (.ref ev),Wv (.ref nn),f5,Wx,Wx,Wx,Wx] (K++[.lst (ex.map PV.str),.lst ((ns++ex).map PV.str)]) rfl;unfold Ut Sg at lp;have ee:ex.map PV.str=[.str "",.str "p",.str "get",.str "Zz",.str "a b"]:=rfl
    clear_value K2 n0 nh
    generalize (ns++ex++nh).map PV.str=al at it lp;generalize (ns++ex).map PV.str=nx at *;rw[ee] at *;simp? [↓uZ,↓EC,↓Lg,Eg,↓De,AO,a1',a2',i4,c2,it,lp,oR]
  simp? [Xc]
 rw[run_eq T.pM rfl];show fin _ (gv (run pg (k+17)) [Wv P.v,Wv (aJ S),Wv (.tup (a.map cV)),Wv (.ref ev),Wx,Wx,Wx,Wx,Wx,Wx] h)=_;rw[A,jG];have e:K2++Z2=h++(Z++[.lst (ex.map PV.str),.lst ((ns++ex).map PV.str),.lst (nh.map PV.str),.lst ((ns++ex++nh).map PV.str)]++Z2):=by show(K++_)++Z2=_;rw[hK];simp
 rw[e];exact bU rfl
end
noncomputable def room:=30
def Qm:=(eB bV (ab (je 1 (jh (q9 (aa 5) dS (cB (aa 8)))) (gN 12) (aF (aj kb (eX 12 0) (aa 11))) (aa 12)) ah))
def TQ:=(ae (ai (ag "_law_first" (a1 (aa 3))) (gN 4))
  (ae (ai (ag "_law_drawn" (ab (aa 3) (ab (aa 1) (ab (aa 4) (ab (ag "_law_take" (a2 (aa 1) (eI 21))) ah))))) (gT 2 (aA (gN 5) (aA (gN 6) cw))))
  (ae (ai (ag "first_stand" (a1 (aa 3))) (gN 7))
  (ae (bW (nF (aF (ag "_law_is_told" (ab (aa 3) (ab (aa 7) (ab (aa 5) (ab (ag "_law_events" (ab (bD (ab (eI 0) (a3 (eI 0) (eI 0) (eI 0)))) (a1 (aa 6)))) ah))))))) (ay (eC (.bl false))) cE)
  (ae (ai (ag "_law_take" (ab (aa 1) (ab (aj aU (eB bV (a1 (aa 5))) (eI 1)) ah))) (gN 8))
  (ae (ai (aj aB (ag "walked" (ab (aa 3) (ab (aa 7) (ab (q9 (aa 5) dS (cB (aa 8))) ah)))) (eI 0)) (gN 9))
  (ae (ai (je 1 (cO (a1 (eI 4))) (gN 11) aN Qm) (gN 10))
  (bW (nF (aF (ag "_law_is_told" (ab (aa 3) (ab (aa 9) (ab (q9 (aa 5) (cB (aa 8)) dS) (ab (ag "_law_events" (ab (aa 10) (ab (q9 (aa 6) (cB (aa 8)) dS) ah))) ah))))))) (ay (eC (.bl false))) cE))))))))
noncomputable def cnt(a:List (Nat × PV × PV))(j:Nat):Int:=((a.filter λz=>decide (z.1=j)).length)
theorem Ep.aZ(h:Ep P S j g l S1): ∃ c,S.aZ[j]?=Wv c/\S1.aZ=S.aZ.set j (c+1):=by
 obtain⟨x,s,c,r,ex,es,ec,er,hw,hg,eS,el⟩:=h.at_;refine⟨c,ec,?_⟩;rw[eS];cases r<;>rfl
theorem Wk.aZ(h:Wk P S a S2): ∀ j,S2.aZ[j]?=(S.aZ[j]?).map (· +cnt a j):=by
 induction h with
 | nil S=>intro j;cases S.aZ[j]?<;>simp[cnt]
 | @cons S S1 S2 i g l r st _ ih =>
  intro j
  obtain⟨c,ec,e1⟩:=st.aZ
  rw[ih j,e1,abG]
  unfold cnt
  by_cases q:i=j
  . subst q;have:=(WA.mp ec).1;rw[if_pos rfl,if_pos this,ec,Xm (by simp),WE];simp only[YW,Zc];omega
  . rw[if_neg q,XC (by simpa using q)]
section
variable{pg:Tb}(T:bN pg)
include T
theorem MR k (hb:b.length<=100) rv v (hsl: ∀ g,Am rv Wx (Wv v) g= .ok (.tup (b.map cV)) g) e0 e1 e2 e3 e4 e6 e7 e9 e10 xs0: ∀(js:List Nat) ys h Y,ys.length+js.length<=1000 ->
  ∃ Z ,gL ⟨Wx,xs0⟩ (aO 1 (gN 11) aN Qm (run pg k) [e0,e1,e2,e3,e4,Wv rv,e6,e7,Wv (.int v),e9,e10]) (js.map λi:Nat=>PV.int (0+(i))) ys (h++Y)= .ok (ys++js.map λj=>PV.int (cnt b j)) (h++Z):=by
 intro js
 induction js with
 | nil=>intro ys h Y _;exact⟨Y,by rw[Xc,Xc,Xr,P3.gL,if_pos (show uj.kC ⟨Wx,_⟩ _=true from rfl)]⟩
 | cons j js ih =>
  intro ys h Y hy
  rw[WE] at hy
  have iz:(0:Int)+(j:Int)=(j:Int):=abd _
  have hz:ys.length < WJ:=WQ (show ys.length < 1001 by omega) (by decide)
  obtain⟨Z,i1⟩:=ih (ys++[.int (cnt b j)]) h (Y++[.lst ((b.filter λz=>decide (z.1=j)).map cV)]) (by rw[WR];simp;omega)
  refine⟨Z,?_⟩
  have lc: ∀ E ,E=[e0,e1,e2,e3,e4,Wv rv,e6,e7,Wv (.int v),e9,e10,Wv (.int (j))]->gL ⟨Wx,b.map cV⟩ (aO 1 (gN 12) (aF (aj kb (eX 12 0) (aa 11))) (aa 12) (run pg k) E) (b.map cV) [] (h++Y)= .ok ((b.filter λz=>decide (z.1=j)).map cV) (h++Y):=by
   rintro _ rfl;refine(dW rfl b [] (f:=λz=>if decide (z.1=j)=true then Wv (cV z) else Wx) (g:=cV) (λz m=>?_) (by simp;omega)).trans ?_
   . by_cases c:z.1=j
     . have c':((z.1))=(j):=by omega
       simp? [cV,cL,c,c']
     . have c': ¬ ((z.1))=(j:Int):=by omega
       simp? [cV,cL,c,c']
   . rw[XF,<- aaf,abv];congr 2
     funext z
     by_cases c:z.1=j
     . simp[c,aaG]
     . simp[c,aaG]
  have st:aO 1 (gN 11) aN Qm (run pg k) [e0,e1,e2,e3,e4,Wv rv,e6,e7,Wv (.int v),e9,e10] (.int (j)) (h++Y)= .ok (Wv (.int (cnt b j))) (h++(Y++[.lst ((b.filter λz=>decide (z.1=j)).map cV)])):=by
   have l1:=lc _ rfl;have ln:bV [.ref (h++Y).length] ((h++Y)++[.lst ((b.filter λz=>decide (z.1=j)).map cV)])= .ok (.int (cnt b j)) ((h++Y)++[.lst ((b.filter λz=>decide (z.1=j)).map cV)]):=by
    rw[vY,aR,qy,Wy];rfl
   rw[<- WV];generalize h++Y=J at l1 ln;simp? [Qm,hsl,l1,↓ln]
  rw[WH,P3.gL,if_pos ⟨show uj.kC ⟨Wx,_⟩ _=true from rfl,hz⟩,iz,st,dm]
  refine i1.trans ?_
  rw[WH,WV]
  rfl
end
section
variable{pg:Tb}(T:bN pg)
include T
theorem xy fr q C (G:PH) {P:Pg} (ok:P.Ok) e0 e3 e4 e5 e6 e7 e8 e9 e10 :
  ∃(q':Int × Int × Int)(G':PH)(f4 f5 f6 f7 f8 f9 f10:Option PV),br (gN 3) TQ (run pg 30) P.v [e0,Wv (.ref 1),Wv (.ref 2),e3,e4,e5,e6,e7,e8,e9,e10] (fr::bw q::C::G)= .ok (.nx [e0,Wv (.ref 1),Wv (.ref 2),Wv P.v,f4,f5,f6,f7,f8,f9,f10]) (fr::bw q'::C::G'):=by
 have hm:=ok.many;obtain⟨X,lX,R0,ef⟩:=uR T 19 (fr::bw q::C::G) ok;have ln:(fr::bw q::C::G).length=3+G.length:=by simp only[WE];omega
 rw[ln] at R0 ef;obtain⟨t,q2,t0,t1,et⟩:=cv T 29 fr q 21 (by decide) (by decide);obtain⟨tn,rfl⟩:=XX t0;have W0:=HS ok;have R1:Rep (fr::bw q2::C::(G++X)) (3+G.length) P (cy P) (cy P).bT:=R0.same λi h1 _=>by
  obtain⟨k,rfl⟩: ∃ k,i=k+1+1:=⟨i - 2,by omega⟩
  rfl
 obtain⟨a,S,q3,G3,la,w,lG,R3,off,ed⟩:=uD T 9 ok (by omega) W0 R1 (by simp only[WE,WR,lX];omega) (m:=tn) (by omega);obtain⟨g2,G4,rfl⟩: ∃ g2 G4,G3=g2::G4:=by
  cases G3 with
  | nil=>simp at lG
  | cons x y=>exact⟨x,y,rfl⟩
 have g2e:=Xx (off 2 (by omega) (by omega));subst g2e
 clear R0 R1 R3 off lG lX
 have sh:=w.sh ok (N:=0) (by omega) W0;have a4: ∀ z∈a,z.1 < 4:=λz m=>by have:=(sh z m).1;omega
 obtain⟨H2,hH2⟩: ∃ H,H=fr::bw q3::g2::G4:=⟨_,rfl⟩
 obtain⟨o1,ev1⟩:=ki T 29 (H2++[.lst (([0,0,0,0]).map PV.int)]) (n:=H2.length) (c:=[0,0,0,0]) aR (a:=a) a4 (by omega);have sm:dI [0,0,0,0] a=dI (cy P).aZ a:=pK a _ _ P.hs.length (λz m=>(sh z m).1) (by simp;omega) (by show _<=(P.hs.map _).length;rw[Wy];exact WG _) λj hj=>by
  show _=(P.hs.map λ_=>(0))[j]?;rw[WT,WD hj]
  match j,(show j < 4 by omega) with
  | 0,_=>rfl
  | 1,_=>rfl
  | 2,_=>rfl
  | 3,_=>rfl
 rw[sm] at ev1;obtain⟨E1,hE1⟩: ∃ E,E=PO.lst ((a.zip (dI (cy P).aZ a)).map eA):=⟨_,rfl⟩
 obtain⟨z4,hz4⟩: ∃ z,z=PO.lst (([0,0,0,0]).map PV.int):=⟨_,rfl⟩
 rw[<- hE1,<- hz4] at ev1;have lz:(H2++[z4]).length+1=H2.length+2:=by simp
 rw[lz,WV] at ev1;have ev1':=ev1;have td1:run pg 30 "_law_is_told" [P.v,aJ (cy P),.tup (a.map cV),.ref (H2.length+2)] (H2++[z4,o1,E1])= .ok (.bl true) (H2++[z4,o1,E1]):=nY T 12 _ ok W0 (by omega) w (by rw[aM,<- hE1];rfl);obtain⟨p,q4,p0,p9,ep⟩:=cv T 29 fr q3 ((a.length)+1) (by omega) (by omega);obtain⟨pl,rfl⟩:=XX p0;have ap:=(List.take_append_drop pl a).symm;obtain⟨S1,w1,w2⟩:=Wk.split (a:=a.take pl) (b:=a.drop pl) (by rw[<- ap];exact w);have lt:(a.take pl).length<=a.length:=by rw[Xz];omega
 have ld:(a.take pl).length+(a.drop pl).length=a.length:=by rw[<- WR,<- ap]
 have W1:=w1.ok ok W0;obtain⟨H4,hH4⟩: ∃ H,H=fr::bw q4::g2::(G4++[z4,o1,E1]):=⟨_,rfl⟩
 have wk:=sO T 15 H4 ok W0 (by omega) w1;have sl1: ∀ g,Am (.tup (a.map cV)) Wx (Wv (pl:Int)) g= .ok (.tup ((a.take pl).map cV)) g:=λg=>by rw[FT,P3.o7 (by omega),XA,abW]
 have sl2: ∀ g,Am (.tup (a.map cV)) (Wv (pl:Int)) Wx g= .ok (.tup ((a.drop pl).map cV)) g:=λg=>by rw[FT,P3.ig (by omega),XA,abX]
 have sl3: ∀ g,Am (.tup (a.map hU)) (Wv (pl:Int)) Wx g= .ok (.tup ((a.drop pl).map hU)) g:=λg=>by rw[FT,P3.ig (by omega),XA,abX]
 obtain⟨Z,lc⟩:=MR T 30 (b:=a.take pl) (by omega) (.tup (a.map cV)) (pl) sl1 e0 (Wv (.ref 1)) (Wv (.ref 2)) (Wv P.v) (Wv (.ref (3+G.length))) (Wv (.tup (a.map hU))) (Wv (aJ (cy P))) (Wv (aJ S1)) e10 (aH 0 4) (Xj 4) [] H4 [] (by decide);rw[Xr,XF] at lc
 let cs:=(Xj 4).map λj=>cnt (a.take pl) j
 have ec:((Xj 4).map λj=>PV.int (cnt (a.take pl) j))=cs.map PV.int:=by show _=((Xj 4).map _).map _;rw[XB];rfl
 rw[ec] at lc;obtain⟨o2,ev2⟩:=ki T 29 (H4++Z++[.lst (cs.map PV.int)]) (n:=(H4++Z).length) (c:=cs) aR (a:=a.drop pl) (λz m=>a4 z (ZQ m)) (by omega);have sm2:dI cs (a.drop pl)=dI S1.aZ (a.drop pl):=pK (a.drop pl) _ _ P.hs.length (λz m=>(sh z (ZQ m)).1) (by show _<=((Xj 4).map _).length;simp;omega) (by rw[W1.lc];exact WG _) λj hj=>by
  rw[w1.aZ j];show((Xj 4).map _)[j]?=((P.hs.map λ_=>(0))[j]?).map _;rw[WT,WT,WD hj,adb (by omega)];simp
 rw[sm2] at ev2;obtain⟨J,hJ⟩: ∃ J,J=H4++Z:=⟨_,rfl⟩
 obtain⟨E2,hE2⟩: ∃ E,E=PO.lst (((a.drop pl).zip (dI S1.aZ (a.drop pl))).map eA):=⟨_,rfl⟩
 obtain⟨z5,hz5⟩: ∃ z,z=PO.lst (cs.map PV.int):=⟨_,rfl⟩
 rw[<- hJ] at lc ev2;rw[<- hE2,<- hz5] at ev2;have lz2:(J++[z5]).length+1=J.length+2:=by simp
 rw[lz2,WV] at ev2;have ev2':=ev2;have td2:run pg 30 "_law_is_told" [P.v,aJ S1,.tup ((a.drop pl).map cV),.ref (J.length+2)] (J++[z5,o2,E2])= .ok (.bl true) (J++[z5,o2,E2]):=nY T 12 _ ok W1 (by omega) w2 (by rw[aM,<- hE2];rfl);refine⟨q4,G4++[z4,o1,E1]++Z++[z5,o2,E2],Wv (.ref (3+G.length)),Wv (.tup (a.map cV)),Wv (.tup (a.map hU)),Wv (aJ (cy P)),Wv (.int (pl)),Wv (aJ S1),Wv (.ref J.length),?_⟩;have fin:fr::bw q4::g2::(G4++[z4,o1,E1]++Z++[z5,o2,E2])=J++[z5,o2,E2]:=by rw[hJ,hH4];simp
 rw[fin];have ef':=ef;have et':run pg 30 "_law_take" [.ref 1,.int 21] (fr::bw q::g2::(G++X))= .ok (.int (tn:Int)) (fr::bw q2::g2::(G++X)):=et _;have fs:=o8 T 18 H2 ok;have ep':run pg 30 "_law_take" [.ref 1,.int ((a.length)+1)] (H2++[z4,o1,E1])= .ok (.int (pl)) H4:=by rw[hH2,hH4];exact ep _
 rw[<- hH2] at ed;show(gN 3 P.v _ _).bind (TQ (run pg 30))=_;rw[KP,dc];show ae _ (ae _ (ae _ (ae _ (ae _ (ae _ (ae _ _)))))) (run pg 30) [e0,Wv (.ref 1),Wv (.ref 2),Wv P.v,e4,e5,e6,e7,e8,e9,e10] _=_;refine(ba (e1:=[e0,Wv (.ref 1),Wv (.ref 2),Wv P.v,Wv (.ref (3+G.length)),e5,e6,e7,e8,e9,e10]) (h1:=fr::bw q::g2::(G++X)) ?_).trans ?_
 . simp? [ef']
 refine(ba (e1:=[e0,Wv (.ref 1),Wv (.ref 2),Wv P.v,Wv (.ref (3+G.length)),Wv (.tup (a.map cV)),Wv (.tup (a.map hU)),e7,e8,e9,e10]) (h1:=H2) ?_).trans ?_
 . simp? [et',ed]
 refine(ba (e1:=[e0,Wv (.ref 1),Wv (.ref 2),Wv P.v,Wv (.ref (3+G.length)),Wv (.tup (a.map cV)),Wv (.tup (a.map hU)),Wv (aJ (cy P)),e8,e9,e10]) (h1:=H2) ?_).trans ?_
 . have fs':=fs;simp? [fs']
 refine(ba (e1:=[e0,Wv (.ref 1),Wv (.ref 2),Wv P.v,Wv (.ref (3+G.length)),Wv (.tup (a.map cV)),Wv (.tup (a.map hU)),Wv (aJ (cy P)),e8,e9,e10]) (h1:=H2++[z4,o1,E1]) ?_).trans ?_
 . have z4':PO.lst [.int 0,.int 0,.int 0,.int 0]=z4:=hz4.symm;simp? [z4',ev1',td1]
 refine(ba (e1:=[e0,Wv (.ref 1),Wv (.ref 2),Wv P.v,Wv (.ref (3+G.length)),Wv (.tup (a.map cV)),Wv (.tup (a.map hU)),Wv (aJ (cy P)),Wv (.int (pl)),e9,e10]) (h1:=H4) ?_).trans ?_
 . simp? [ep',Wy]
 refine(ba (e1:=[e0,Wv (.ref 1),Wv (.ref 2),Wv P.v,Wv (.ref (3+G.length)),Wv (.tup (a.map cV)),Wv (.tup (a.map hU)),Wv (aJ (cy P)),Wv (.int (pl)),Wv (aJ S1),e10]) (h1:=H4) ?_).trans ?_
 . have wk':=wk;simp? [sl1,wk']
 refine(ba (e1:=[e0,Wv (.ref 1),Wv (.ref 2),Wv P.v,Wv (.ref (3+G.length)),Wv (.tup (a.map cV)),Wv (.tup (a.map hU)),Wv (aJ (cy P)),Wv (.int (pl)),Wv (aJ S1),Wv (.ref J.length)]) (h1:=J++[z5]) ?_).trans ?_
 . have t4:ace (4:Int)=4:=rfl;have lc':gL ⟨Wx,aH 0 4⟩ (aO 1 (gN 11) aN Qm (run pg 30) [e0,Wv (.ref 1),Wv (.ref 2),Wv P.v,Wv (.ref (3+G.length)),Wv (.tup (a.map cV)),Wv (.tup (a.map hU)),Wv (aJ (cy P)),Wv (.int (pl:Int)),Wv (aJ S1),e10]) (aH 0 4) [] H4= .ok (cs.map PV.int) J:=lc;rw[hz5]
   clear_value cs
   simp? [t4,lc']
 simp? [sl2,sl3,ev2',td2]
end
theorem Es: ∀ ns:List Int,ns.length<=63->Ok (run tb (room+1) "law" [.ref 0] [.kZ (ns.map PV.int)]) λv _=>v= .bl true:=by
 intro ns hn;have T:=has;show Ok (run tb (30+1) "law" [.ref 0] [sI ns]) _;obtain⟨q0,bx⟩:=O4 T 29 ns hn;obtain⟨b1,s11,s12,s13,h1,p1,q1,D1,e1⟩:=qO T 23 (sI ns) q0 [];obtain⟨b2,s21,s22,s23,h2,p2,q2,D2,e2⟩:=qO T 23 (sI ns) q1 [];obtain⟨rfl,ok1⟩:=D1.pg;obtain⟨rfl,ok2⟩:=D2.pg;obtain⟨P1,hP1⟩: ∃ P,P=Pg.mk b1 s11 s12 s13 h1:=⟨_,rfl⟩
 obtain⟨P2,hP2⟩: ∃ P,P=Pg.mk b2 s21 s22 s23 h2:=⟨_,rfl⟩
 rw[<- hP1] at ok1 e1;rw[<- hP2] at ok2 e2;obtain⟨q3,G3,f4,f5,f6,f7,f8,f9,f10,st1⟩:=xy T (sI ns) q2 (.lst [P1.v,P2.v]) [] ok1 (Wv (.ref 0)) Wx Wx Wx Wx Wx Wx Wx Wx;obtain⟨q4,G4,g4,g5,g6,g7,g8,g9,g10,st2⟩:=xy T (sI ns) q3 (.lst [P1.v,P2.v]) G3 ok2 (Wv (.ref 0)) (Wv P1.v) f4 f5 f6 f7 f8 f9 f10;have A:Fx (run tb 30) [Wv (.ref 0),Wx,Wx,Wx,Wx,Wx,Wx,Wx,Wx,Wx,Wx] [sI ns]= .ok (.rt (.bl true)) (sI ns::bw q4:: .lst [P1.v,P2.v]::G4):=by
  refine(ba (e1:=[Wv (.ref 0),Wv (.ref 1),Wx,Wx,Wx,Wx,Wx,Wx,Wx,Wx,Wx]) (h1:=[sI ns,bw q0]) ?_).trans ?_
  . simp? [bx]
  refine(ba (e1:=[Wv (.ref 0),Wv (.ref 1),Wv (.ref 2),Wx,Wx,Wx,Wx,Wx,Wx,Wx,Wx]) (h1:=[sI ns,bw q2,.lst [P1.v,P2.v]]) ?_).trans ?_
  . simp? [e1,e2]
  refine(ba (e1:=[Wv (.ref 0),Wv (.ref 1),Wv (.ref 2),Wv P2.v,g4,g5,g6,g7,g8,g9,g10]) (h1:=sI ns::bw q4:: .lst [P1.v,P2.v]::G4) ?_).trans ?_
  . have it:oE (.ref 2) [sI ns,bw q2,.lst [P1.v,P2.v]]= .ok ⟨Wv 2,[P1.v,P2.v]⟩ [sI ns,bw q2,.lst [P1.v,P2.v]]:=rfl;have lp:bK ⟨Wv 2,[P1.v,P2.v]⟩ (br (gN 3) TQ (run tb 30)) [P1.v,P2.v] [Wv (.ref 0),Wv (.ref 1),Wv (.ref 2),Wx,Wx,Wx,Wx,Wx,Wx,Wx,Wx] [sI ns,bw q2,.lst [P1.v,P2.v]]= .ok (.nx [Wv (.ref 0),Wv (.ref 1),Wv (.ref 2),Wv P2.v,g4,g5,g6,g7,g8,g9,g10]) (sI ns::bw q4:: .lst [P1.v,P2.v]::G4):=by
     rw[k7 (cR rfl),st1,dc,cb,k7 (cR rfl),st2,dc,cb,oO (cR rfl)]
    unfold TQ Qm at lp;simp? [it,lp]
  simp? [Xc]
 show Ok (fin _ (Fx (run tb 30) [Wv (.ref 0),Wx,Wx,Wx,Wx,Wx,Wx,Wx,Wx,Wx,Wx] [sI ns])) _;rw[A,jG];unfold P3.settle;split<;>exact⟨_,_,rfl,rfl⟩
open PySem PySem.W PyProof.Rows
set_option maxHeartbeats 8000000
def dE(K:Wz)(mg:Str->Option WC):List (String × Nat)->Prop
 | []=>True
 | (x,n)::l=>At K mg x (top n)/\dE K mg l
def Zs(K:Wz):List Str->Prop
 | []=>True
 | x::l=>Yo K Xn x=Wv Wx/\Zs K l
theorem Zs.all{K:Wz}{h:X8}{mg:Str->Option WC}(X:K.In h)(G:h.Ns Xn mg): ∀{l:List Str},Zs K l-> ∀ x∈l,mg x=Wx
 | [],_=>by intro p m;cases m
 | _::_,z=>Xs.mpr ⟨PySem.W.mg_none_of X G z.1,Zs.all X G z.2⟩
theorem dE.go{P:Xy}{w:X0}{K:Wz}{mg:Str->Option WC}{x:String}{n:Nat}{l:List (String × Nat)}{st:acC}{N:List Str}{b:String × Df}{m:List (String × Df)}(g:bN tb->At K mg x (top n)->aT P w K mg tb b.1 b.2 st N)(A:dE K mg ((x,n)::l))(r:dE K mg l-> ∀ p∈m,∃ st N,aT P w K mg tb p.1 p.2 st N): ∀ p∈b::m,∃ st N,aT P w K mg tb p.1 p.2 st N:=Xs.mpr ⟨⟨_,_,g has A.1⟩,r A.2⟩
theorem all_mk{l:aaW}{w:X0}{K:Wz}{h:X8}{mg:Str->Option WC}{fa:W2}(X:K.In h)(G:h.Ns Xn mg)(hfa:mg "law" =Wv (.ref fa)){aQj aQg aQb aQh rQh0 rQh1 rQh2 rQh3 rQh4 rQh5 rQh6 rQh7 rQh8 rQh9 rQh10 rQh11 aQf aQc:W2}{nQj nQg nQb eQh nQhv0_ nQhv1_ nQhv2_ nQhv3_ nQhv4_ nQhv5_ nQhv6_ nQhv7_ nQhv8_ nQhv9_ nQhv10_ nQhv11_ eQf eQc:Nat}{sQj sQg sQb sQhv0_ sQhv1_ sQhv2_ sQhv3_ sQhv4_ sQhv5_ sQhv6_ sQhv7_ sQhv8_ sQhv9_ sQhv10_ sQhv11_:Array (Option WC)}{tQj0 tQj1 tQj2 tQj3 tQj4 tQk tQd tQg0 tQg1 tQg2 tQg3 tQg4 tQa tQi tQb0 tQb1 tQb2 tQe qQh0 qQh1 qQh2 qQh3 qQh4 qQh5 qQh6 qQh7 qQh8 qQh9 qQh10 qQh11 tQhv0_0 tQhv0_1 tQhv1_0 tQhv1_1 tQhv2_0 tQhv2_1 tQhv3_0 tQhv3_1 tQhv4_0 tQhv5_0 tQhv6_0 tQhv6_1 tQhv7_0 tQhv7_1 tQhv8_0 tQhv8_1 tQhv9_0 tQhv10_0 tQhv10_1 tQhv11_0 tQhv11_1 qQf0 qQf1 qQf2 qQf3 vQf0 vQf1 vQf2 vQf3 qQc0 qQc1 qQc2 qQc3 qQc4 qQc5 qQc6 vQc0 vQc1 vQc2 vQc3 vQc4 vQc5 vQc6:Tok}{dQhv0_ dQhv1_ dQhv2_ dQhv3_ dQhv4_ dQhv5_ dQhv6_ dQhv7_ dQhv8_ dQhv9_ dQhv10_ dQhv11_:Option W2}
  (A:dE K mg [("is_whole",5),("is_between",6),("is_value",7),("is_tuple_of",8),("worth",13),("joined_worth",14),("names_of",16),("number_of",17),("rows_of",18),("first_seat",22),("rested",23),("is_rested",24),("is_own_row",25),("behind_own_row",26),("laid",27),("touch_of",28),("seat_behind",29),("may_come",30),("first_stand",35),("hands_of",36),("state_of",37),("wait_of",38),("gone",42),("due_touch",43),("takes_gift",44),("meeting",45),("with_hand_on",46),("with_state",47),("replaced",48),("walked",51),("stepped",52),("history",53),("touches_of",54),("with_events",55),("events_by",56),("_law_box",58),("_law_take",59),("_law_sum",60),("_law_touch_row",61),("_law_rows",62),("_law_program",63),("_law_worth",64),("_law_is_own",65),("_law_rest",66),("_law_first",67),("_law_row",68),("_law_wait",69),("_law_boxed",70),("_law_locked",71),("_law_laned",72),("_law_go",73),("_law_can",74),("_law_gift",75),("_law_drawn",76),("_law_events",77),("_law_is_told",78),("law",79)])
  (Z:Zs K iE)
  (wQj:Yo K Xn "SORTS" =Wv (Wv (.ref aQj))) (oQj:K.lookup aQj=Wv ⟨.type "tuple",Wx,.seq #[.str "box" tQj0,.str "lock" tQj1,.str "lane" tQj2,.str "door" tQj3,.str "hand" tQj4] nQj,sQj⟩)
  (wQk:Yo K Xn "WORTHS" =Wv (Wv (.int 1000 tQk)))
  (wQd:Yo K Xn "MOST_OWN_ROWS" =Wv (Wv (.int 200 tQd)))
  (wQg:Yo K Xn "POCKETING" =Wv (Wv (.ref aQg))) (oQg:K.lookup aQg=Wv ⟨.type "tuple",Wx,.seq #[.str "get" tQg0,.str "fetch" tQg1,.str "clock" tQg2,.str "lot" tQg3,.str "hear" tQg4] nQg,sQg⟩)
  (wQa:Yo K Xn "COUNTS" =Wv (Wv (.int 0 tQa)))
  (wQi:Yo K Xn "SEATS" =Wv (Wv (.int 1 tQi)))
  (wQb:Yo K Xn "GIFTED" =Wv (Wv (.ref aQb))) (oQb:K.lookup aQb=Wv ⟨.type "tuple",Wx,.seq #[.str "clock" tQb0,.str "lot" tQb1,.str "hear" tQb2] nQb,sQb⟩)
  (wQe:Yo K Xn "MOST_STEPS" =Wv (Wv (.int 60 tQe)))
  (oQhv0_:K.lookup rQh0=Wv ⟨.type "tuple",dQhv0_,.seq #[.str "pocket" tQhv0_0,.str "sum" tQhv0_1] nQhv0_,sQhv0_⟩)
  (oQhv1_:K.lookup rQh1=Wv ⟨.type "tuple",dQhv1_,.seq #[.str "target" tQhv1_0,.str "sum" tQhv1_1] nQhv1_,sQhv1_⟩)
  (oQhv2_:K.lookup rQh2=Wv ⟨.type "tuple",dQhv2_,.seq #[.str "pocket" tQhv2_0,.str "box" tQhv2_1] nQhv2_,sQhv2_⟩)
  (oQhv3_:K.lookup rQh3=Wv ⟨.type "tuple",dQhv3_,.seq #[.str "box" tQhv3_0,.str "sum" tQhv3_1] nQhv3_,sQhv3_⟩)
  (oQhv4_:K.lookup rQh4=Wv ⟨.type "tuple",dQhv4_,.seq #[.str "lock" tQhv4_0] nQhv4_,sQhv4_⟩)
  (oQhv5_:K.lookup rQh5=Wv ⟨.type "tuple",dQhv5_,.seq #[.str "lock" tQhv5_0] nQhv5_,sQhv5_⟩)
  (oQhv6_:K.lookup rQh6=Wv ⟨.type "tuple",dQhv6_,.seq #[.str "lane" tQhv6_0,.str "sum" tQhv6_1] nQhv6_,sQhv6_⟩)
  (oQhv7_:K.lookup rQh7=Wv ⟨.type "tuple",dQhv7_,.seq #[.str "pocket" tQhv7_0,.str "lane" tQhv7_1] nQhv7_,sQhv7_⟩)
  (oQhv8_:K.lookup rQh8=Wv ⟨.type "tuple",dQhv8_,.seq #[.str "door" tQhv8_0,.str "sum" tQhv8_1] nQhv8_,sQhv8_⟩)
  (oQhv9_:K.lookup rQh9=Wv ⟨.type "tuple",dQhv9_,.seq #[.str "pocket" tQhv9_0] nQhv9_,sQhv9_⟩)
  (oQhv10_:K.lookup rQh10=Wv ⟨.type "tuple",dQhv10_,.seq #[.str "pocket" tQhv10_0,.str "chances" tQhv10_1] nQhv10_,sQhv10_⟩)
  (oQhv11_:K.lookup rQh11=Wv ⟨.type "tuple",dQhv11_,.seq #[.str "pocket" tQhv11_0,.str "door" tQhv11_1] nQhv11_,sQhv11_⟩)
  (wQh:Yo K Xn "ROW_PARTS" =Wv (Wv (.ref aQh))) (oQh:K.lookup aQh=Wv { cls:= .type "dict",data:= .dict #[{ hash:=Xg w.params "let",key:= .str "let" qQh0,val:= .ref rQh0},{ hash:=Xg w.params "leap",key:= .str "leap" qQh1,val:= .ref rQh1},{ hash:=Xg w.params "get",key:= .str "get" qQh2,val:= .ref rQh2},{ hash:=Xg w.params "put",key:= .str "put" qQh3,val:= .ref rQh3},{ hash:=Xg w.params "take",key:= .str "take" qQh4,val:= .ref rQh4},{ hash:=Xg w.params "free",key:= .str "free" qQh5,val:= .ref rQh5},{ hash:=Xg w.params "send",key:= .str "send" qQh6,val:= .ref rQh6},{ hash:=Xg w.params "fetch",key:= .str "fetch" qQh7,val:= .ref rQh7},{ hash:=Xg w.params "say",key:= .str "say" qQh8,val:= .ref rQh8},{ hash:=Xg w.params "clock",key:= .str "clock" qQh9,val:= .ref rQh9},{ hash:=Xg w.params "lot",key:= .str "lot" qQh10,val:= .ref rQh10},{ hash:=Xg w.params "hear",key:= .str "hear" qQh11,val:= .ref rQh11}] eQh}) (yQh:(aQh == X9)=false)
  (wQf:Yo K Xn "PLACE_OF" =Wv (Wv (.ref aQf))) (oQf:K.lookup aQf=Wv { cls:= .type "dict",data:= .dict #[{ hash:=Xg w.params "box",key:= .str "box" qQf0,val:= .int 2 vQf0},{ hash:=Xg w.params "lock",key:= .str "lock" qQf1,val:= .int 3 vQf1},{ hash:=Xg w.params "lane",key:= .str "lane" qQf2,val:= .int 4 vQf2},{ hash:=Xg w.params "door",key:= .str "door" qQf3,val:= .int 5 vQf3}] eQf}) (yQf:(aQf == X9)=false)
  (wQc:Yo K Xn "MET_SORT" =Wv (Wv (.ref aQc))) (oQc:K.lookup aQc=Wv { cls:= .type "dict",data:= .dict #[{ hash:=Xg w.params "get",key:= .str "get" qQc0,val:= .str "box" vQc0},{ hash:=Xg w.params "put",key:= .str "put" qQc1,val:= .str "box" vQc1},{ hash:=Xg w.params "take",key:= .str "take" qQc2,val:= .str "lock" vQc2},{ hash:=Xg w.params "free",key:= .str "free" qQc3,val:= .str "lock" vQc3},{ hash:=Xg w.params "send",key:= .str "send" qQc4,val:= .str "lane" vQc4},{ hash:=Xg w.params "fetch",key:= .str "fetch" qQc5,val:= .str "lane" vQc5},{ hash:=Xg w.params "say",key:= .str "say" qQc6,val:= .str "door" vQc6}] eQc}) (yQc:(aQc == X9)=false) :
  ∃ fd:Z7,(∀(s:WK)(v:WC),acf s fd ⟨[v],[]⟩ [("_law_script",v)])/\ ∀ base:X8,K.In base->base.Ns Xn mg->lU l.prog w K mg base wZ (room+1) fa fd ["_law_script"] (yz K tb (room+1) "law"):=by
 have T:Top l.prog w K mg tb:=⟨Zs.all X G Z,JR (conT:=conT) rfl (Xs.mpr ⟨vg (us:=[.str "box" tQj0,.str "lock" tQj1,.str "lane" tQj2,.str "door" tQj3,.str "hand" tQj4]) (Yp X G wQj) oQj (by show 5<=WJ;decide) (.cons (.str _ _) (.cons (.str _ _) (.cons (.str _ _) (.cons (.str _ _) (.cons (.str _ _) .nil))))),(Xs.mpr ⟨qQ (Yp X G wQk) (.int _ _),(Xs.mpr ⟨qQ (Yp X G wQd) (.int _ _),(Xs.mpr ⟨vg (us:=[.str "get" tQg0,.str "fetch" tQg1,.str "clock" tQg2,.str "lot" tQg3,.str "hear" tQg4]) (Yp X G wQg) oQg (by show 5<=WJ;decide) (.cons (.str _ _) (.cons (.str _ _) (.cons (.str _ _) (.cons (.str _ _) (.cons (.str _ _) .nil))))),(Xs.mpr ⟨qQ (Yp X G wQa) (.int _ _),(Xs.mpr ⟨qQ (Yp X G wQi) (.int _ _),(Xs.mpr ⟨vg (us:=[.str "clock" tQb0,.str "lot" tQb1,.str "hear" tQb2]) (Yp X G wQb) oQb (by show 3<=WJ;decide) (.cons (.str _ _) (.cons (.str _ _) (.cons (.str _ _) .nil))),(Xs.mpr ⟨qQ (Yp X G wQe) (.int _ _),(by intro p m;cases m)⟩)⟩)⟩)⟩)⟩)⟩)⟩)⟩),JZ (dcT:=dcT) rfl (Xs.mpr ⟨yQ (ls:=[("let",qQh0,.ref rQh0),("leap",qQh1,.ref rQh1),("get",qQh2,.ref rQh2),("put",qQh3,.ref rQh3),("take",qQh4,.ref rQh4),("free",qQh5,.ref rQh5),("send",qQh6,.ref rQh6),("fetch",qQh7,.ref rQh7),("say",qQh8,.ref rQh8),("clock",qQh9,.ref rQh9),("lot",qQh10,.ref rQh10),("hear",qQh11,.ref rQh11)]) (Yp X G wQh) oQh yQh (show([.inr "let",.inr "leap",.inr "get",.inr "put",.inr "take",.inr "free",.inr "send",.inr "fetch",.inr "say",.inr "clock",.inr "lot",.inr "hear"]:List Key).Nodup by decide +kernel) (.cons ⟨rfl,fA (us:=[.str "pocket" tQhv0_0,.str "sum" tQhv0_1]) oQhv0_ (by show 2<=WJ;decide) (.cons (.str _ _) (.cons (.str _ _) .nil))⟩ (.cons ⟨rfl,fA (us:=[.str "target" tQhv1_0,.str "sum" tQhv1_1]) oQhv1_ (by show 2<=WJ;decide) (.cons (.str _ _) (.cons (.str _ _) .nil))⟩ (.cons ⟨rfl,fA (us:=[.str "pocket" tQhv2_0,.str "box" tQhv2_1]) oQhv2_ (by show 2<=WJ;decide) (.cons (.str _ _) (.cons (.str _ _) .nil))⟩ (.cons ⟨rfl,fA (us:=[.str "box" tQhv3_0,.str "sum" tQhv3_1]) oQhv3_ (by show 2<=WJ;decide) (.cons (.str _ _) (.cons (.str _ _) .nil))⟩ (.cons ⟨rfl,fA (us:=[.str "lock" tQhv4_0]) oQhv4_ (by show 1<=WJ;decide) (.cons (.str _ _) .nil)⟩ (.cons ⟨rfl,fA (us:=[.str "lock" tQhv5_0]) oQhv5_ (by show 1<=WJ;decide) (.cons (.str _ _) .nil)⟩ (.cons ⟨rfl,fA (us:=[.str "lane" tQhv6_0,.str "sum" tQhv6_1]) oQhv6_ (by show 2<=WJ;decide) (.cons (.str _ _) (.cons (.str _ _) .nil))⟩ (.cons ⟨rfl,fA (us:=[.str "pocket" tQhv7_0,.str "lane" tQhv7_1]) oQhv7_ (by show 2<=WJ;decide) (.cons (.str _ _) (.cons (.str _ _) .nil))⟩ (.cons ⟨rfl,fA (us:=[.str "door" tQhv8_0,.str "sum" tQhv8_1]) oQhv8_ (by show 2<=WJ;decide) (.cons (.str _ _) (.cons (.str _ _) .nil))⟩ (.cons ⟨rfl,fA (us:=[.str "pocket" tQhv9_0]) oQhv9_ (by show 1<=WJ;decide) (.cons (.str _ _) .nil)⟩ (.cons ⟨rfl,fA (us:=[.str "pocket" tQhv10_0,.str "chances" tQhv10_1]) oQhv10_ (by show 2<=WJ;decide) (.cons (.str _ _) (.cons (.str _ _) .nil))⟩ (.cons ⟨rfl,fA (us:=[.str "pocket" tQhv11_0,.str "door" tQhv11_1]) oQhv11_ (by show 2<=WJ;decide) (.cons (.str _ _) (.cons (.str _ _) .nil))⟩ .nil)))))))))))),(Xs.mpr ⟨yQ (ls:=[("box",qQf0,.int 2 vQf0),("lock",qQf1,.int 3 vQf1),("lane",qQf2,.int 4 vQf2),("door",qQf3,.int 5 vQf3)]) (Yp X G wQf) oQf yQf (show([.inr "box",.inr "lock",.inr "lane",.inr "door"]:List Key).Nodup by decide +kernel) (.cons ⟨rfl,jy (.int _ _)⟩ (.cons ⟨rfl,jy (.int _ _)⟩ (.cons ⟨rfl,jy (.int _ _)⟩ (.cons ⟨rfl,jy (.int _ _)⟩ .nil)))),(Xs.mpr ⟨yQ (ls:=[("get",qQc0,.str "box" vQc0),("put",qQc1,.str "box" vQc1),("take",qQc2,.str "lock" vQc2),("free",qQc3,.str "lock" vQc3),("send",qQc4,.str "lane" vQc4),("fetch",qQc5,.str "lane" vQc5),("say",qQc6,.str "door" vQc6)]) (Yp X G wQc) oQc yQc (show([.inr "get",.inr "put",.inr "take",.inr "free",.inr "send",.inr "fetch",.inr "say"]:List Key).Nodup by decide +kernel) (.cons ⟨rfl,jy (.str _ _)⟩ (.cons ⟨rfl,jy (.str _ _)⟩ (.cons ⟨rfl,jy (.str _ _)⟩ (.cons ⟨rfl,jy (.str _ _)⟩ (.cons ⟨rfl,jy (.str _ _)⟩ (.cons ⟨rfl,jy (.str _ _)⟩ (.cons ⟨rfl,jy (.str _ _)⟩ .nil))))))),(by intro p m;cases m)⟩)⟩)⟩)⟩
 refine MJ T (EW (fnT:=fnT) rfl ?_) has.Sy rfl (Ld has A.2.2.2.2.2.2.2.2.2.2.2.2.2.2.2.2.2.2.2.2.2.2.2.2.2.2.2.2.2.2.2.2.2.2.2.2.2.2.2.2.2.2.2.2.2.2.2.2.2.2.2.2.2.2.2.2.1) hfa;exact dE.go xK A λA=>dE.go vk A λA=>dE.go zM A λA=>dE.go sk A λA=>dE.go Hh A λA=>dE.go qh A λA=>dE.go zp A λA=>dE.go xg A λA=>dE.go Ck A λA=>dE.go vd A λA=>dE.go Fp A λA=>dE.go xp A λA=>dE.go t6 A λA=>dE.go nc A λA=>dE.go N6 A λA=>dE.go yF A λA=>dE.go rU A λA=>dE.go zr A λA=>dE.go rP A λA=>dE.go yi A λA=>dE.go yE A λA=>dE.go BO A λA=>dE.go LR A λA=>dE.go wo A λA=>dE.go tX A λA=>dE.go A6 A λA=>dE.go qX A λA=>dE.go uH A λA=>dE.go yR A λA=>dE.go D5 A λA=>dE.go Cp A λA=>dE.go AZ A λA=>dE.go ue A λA=>dE.go rY A λA=>dE.go w9 A λA=>dE.go zE A λA=>dE.go wI A λA=>dE.go zB A λA=>dE.go nq A λA=>dE.go vP A λA=>dE.go qS A λA=>dE.go tZ A λA=>dE.go sj A λA=>dE.go wO A λA=>dE.go uL A λA=>dE.go y7 A λA=>dE.go wB A λA=>dE.go uM A λA=>dE.go sD A λA=>dE.go t8 A λA=>dE.go Cy A λA=>dE.go xN A λA=>dE.go vO A λA=>dE.go uW A λA=>dE.go sG A λA=>dE.go qZ A λA=>dE.go Ld A λ_ p m=>nomatch m
theorem walk{l:aaW}{q:Xy}{loose:List Str}{XP:(Str->Option WC)->X8->Prop}{YP:X0->X8->Prop}{d:DefRec}{K:Params->Wz}(hn:l.most=Wv 63)(hdf:d.params.defaults=[])
  (hY: ∀(w:X0)(h:X8),YP w h->(K w.params).In h)
  (F: ∀(w:X0)(mg:Str->Option WC)(fa:W2)(h:X8),(K w.params).In h->h.Ns Xn mg->mg d.name=Wv (.ref fa) ->
   ∃ fd:Z7,(∀(s:WK)(u:WC),acf s fd ⟨[u],[]⟩ [("_law_script",u)])/\ ∀ base:X8,(K w.params).In base->base.Ns Xn mg->lU l.prog w (K w.params) mg base wZ (room+1) fa fd ["_law_script"] (yz (K w.params) tb (room+1) "law")) :
  aet q loose XP YP l.row.toRowW d [] (λf vs=>aex f vs) :=
 L2.HQ (n:=63) (k:=room+1) (x:= "_law_script") (CX:=λ_=>wZ) (sp:=λw=>yz (K w.params) tb (room+1) "law") hn (by decide) hdf ⟨rfl,by decide,by decide,rfl⟩ hY F (λ_ H a ns hl hO hS=>Oc Es H a ns hl hO hS) λ_ _ _ _ _ z=>z
end K26
open PySem PySem.W PyProof.Rows
set_option maxRecDepth 100000 in
set_option maxHeartbeats 0 in
theorem PySem.Challenge.cw_leastrecord_k26_histories_holds : PySem.Challenge.rw_leastrecord_k26_histories.Holds := by
 w_on;o_law;k_head;(case hw=>w_witness2)
 k_fill
 refine K26.walk (l:=PySem.Challenge.rw_leastrecord_k26_histories) rfl rfl (λw h Y=>PySem.W.kIn_of Y) ?F
 case F =>
  intro w mg fa h KX G hmg
  refine' K26.all_mk KX G hmg ?A ?Z ?_ ?_ ?_ ?_ ?_ ?_ ?_ ?_ ?_ ?_ ?_ ?_ ?_ ?_ ?_ ?_ ?_ ?_ ?_ ?_ ?_ ?_ ?_ ?_ ?_ ?_ ?_ ?_ ?_ ?_ ?_ ?_
  case' A=>repeat' first | exact trivial | refine' ab5 (L2.RA KX G ?_ ?_ ?_ ?_) ?_
  case' Z=>repeat' first | exact trivial | refine' ab5 ?_ ?_
  all_goals try k_is
  all_goals try k_is
  all_goals exact rfl
end
end
end
