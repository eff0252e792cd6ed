import PyProof.Rows.All
import Wide.All
import OpenK.AllK
import Wide.FinOn
import Lean
import PyProof.EqAt
import PyProof.EqKinds
import PyProof.TupleCall
import KE.KDictSum
import PyProof.AttrMissHeap
import PyProof.WalksMore
import KE.LcSums
import PyProof.AutoListH
import PyProof.ListMulRoad
import KE.KSortTup
import PyProof.ZipIter
import PyProof.Draws
import PyProof.EnumFor
import PyProof.ReprRoads
import PyProof.ListRange
import PySem.Challenge.RW_leastrecord_k21_steps
open PySem.W renaming Frag->Ud,mg_none_of->UQ,nsIn->US,fnOf->Vu,kia_one->Vz,mg_of->VQ,emptyDict->VS,instObj->Wx,keepIn->WN,kas_sort->W0,findIn->XM,cellsFrom_some->XN,OpenLaw->Yd,codeIn->Yk,kia_tup->Yu,kitOne->YE,methodObj->YW,kitx_list->Za,kitx_dict->Zb,lookIn->aad,kitAny->aal,specialIn->aaY,plainGet->abi,kitx_float->abH,kitx_tuple->abI,WalkO->abO,isFn->abU
open PySem renaming wpAny_bind->Ue,Shared->Uj,wpAny_pure->Us,mainGlobals->UI,Program->UN,compareOp->UY,Around->U6,starEach->U7,wpAny_mono->U8,foldedSetIterable->U9,Paired->Vt,assignEach->Vv,sysModules->Vx,bootBuiltins->VA,binaryOp->VD,wpAny_field->VF,wpAny_newObj_type->VG,behindInMarks->VH,wpAny_ite_split->VM,wpAny_callSpecial?_slot->VN,wpAny_holding->VP,FuncData->V0,wpAny_call_entry->V2,wpAny_seqItems->V7,wpAny_truthy_bool->V8,call_meets->Wb,compEnvC->We,wpAny_setField_rec->Wr,PyData->Ws,wpAny_passesOwn->Wy,cellsFrom->WA,wpAny_load->WI,attributeBase->WJ,mem_of_lookup->WK,tupleKind_room_in1->WT,bindArgs->WV,NameKind->WW,swapsWith->W4,Builtin->Xa,wpAny_typeOf->Xh,wpAny_pyIter_tuple->XC,sliceBounds->XF,backTo->XI,assign->XJ,IsPair->XT,wpAny_newList->X9,wpAny_onRaise->Ya,wpAny_updateSeq_pair->Ye,wpAny_execs_nil->Yi,letOwnedTupleGo->Yj,codeAny_builtin->Yl,holding->Yq,getItem->Yr,wpAny_Call_Name_kw->YF,wpAny_binaryOp_repeat_ref->YT,subscripted->YZ,swapsWithSole->Y8,swappedStores->Y9,wpAny_comprehension_free->Zd,tupleKind->Zl,PassesOwn->Zm,noFill_tuple_add->Zo,pushCells->Zr,BindsTo->ZD,codeAny->ZE,IsPart->ZF,typeIs_int->ZI,wpAny_Call_method_late->ZJ,valueAt->ZK,wpAny_rule->ZN,wpAny_specialOf->ZV,pushCells_keeps->ZX,wpAny_isTrue_Compare1->Z0,getitemInPython_of_ne->Z4,wpAny_notOrdered_dict->Z5,wpAny_letTemporaryGo->aae,newFunctionEnv->aaf,Keyword->aat,callerA->aau,DictEntry->aav,wpAny_standAt->aaE,seq_tuple_add->aaF,typeIs_str->aaO,PlainAttrs->aaQ,codeAny_mono->aaZ,concat_meets->aa0,seqIndex_neg->aa1,ZipApart->abb,isTrue->abe,pyNext->abf,pyIter->abg,rawInt->abh,seqSlot_of->abm,sizeLine_eq->abu,seqIndex_of->abw,keywordEach->abx,wpAny_letGo->abA,standAt->abF,call->abJ,Within->abS
open List renaming forall_mem_cons->Ug,getElem?_eq_some_iff->Uh,length_map->Ui,map_cons->Ul,length_cons->Um,replicate->Up,mem_of_getElem?->Uq,getElem?_eq_getElem->Ur,length_append->Uu,mem_cons_self->Uv,size_toArray->Uw,mem_cons->Uy,mem_cons_of_mem->Uz,getElem?_map->UA,getElem?_cons_succ->UE,length_nil->UL,getElem?_append_right->UM,mem_append_right->UP,nil_append->UR,append_assoc->UT,map_nil->UU,length_set->UW,mem_map->UZ,filter_cons_of_pos->U0,getElem?_set_self->U1,not_mem_nil->U2,append_nil->U3,getElem?_append_left->U4,filter_cons_of_neg->Va,mem_singleton->Vc,map_map->Ve,map_append->Vh,mem_or_eq_of_mem_set->Vk,mem_append->Vl,getElem?_set_ne->Vm,range->Vn,length_take->Vo,getD_eq_getElem?_getD->Vp,cons_append->Vq,drop_eq_nil_of_le->VB,getElem_mem->VC,getElem?_eq_none_iff->VE,any_cons->VJ,mem_filter->VL,take_of_length_le->VT,replicate_succ->VY,length_drop->V1,filterMap_cons_none->V4,filterMap_cons_some->V5,find?_cons->Wc,lookup_cons->Wj,mem_range->Wm,getElem?_eq_none->Wv,nodup_cons->Wz,flatten_cons->WD,pairwise_map->WG,length_range->WH,map_congr_left->WL,getElem?_replicate->WO,pairwise_mergeSort->WR,forIn_cons->WY,length_filter_le->W7,nodup_append->Xb,mem_append_left->Xc,perm_ext_iff_of_nodup->Xd,drop_eq_getElem_cons->Xl,mem_of_find?_eq_some->Xm,mergeSort_perm->Xn,filter_sublist->Xo,all_cons->Xs,filterMap_eq_map'->XX,all_eq_true->X5,eq_nil_of_length_eq_zero->Yf,mem_of_mem_take->Yg,getElem?_mapIdx->Yh,headD_cons->Yo,filterMap_cons->Yp,idxOf_lt_length_of_mem->Yz,pairwise_cons->YM,getElem?_inj->Y5,ext_getElem?->Y6,getElem?_cons_zero->Zs,pairwise_singleton->Zv,map->Zw,take_length->Zz,not_of_lt_findIdx->ZS,of_mem_zip->ZU,find?_some->ZZ,length_replicate->Z1,length_singleton->Z3,set_append_right->Z7,set_getElem_self->Z8,drop_zero->aai,set_append_left->aam,mem_of_mem_drop->aar,getElem?_range->aay,length_pos_iff->aaC,map_take->aaH,mem_filterMap->aaM,foldl->aaR,set_cons_zero->aaV,getElem_idxOf->aaX,getElem?_set->abd,range'_succ->abp,any_eq_true->abq,mapIdx_cons->abr,length->abv,range'->abB,forIn_nil->abK,tail_cons->abM,map_drop->abQ
open PySem.Heap renaming get?_push_of_some->Uk,lt_size->Ux,get?_push_size->UB,size_push->Vy,get?_none_of_le->V6,push->Wa,get?_push_ne->XS,size_update->Zu,SameBut->ZC,get?_update_other->ZH,get?_update_self->Z2,get?_update_ne->aax
open Nat renaming le_refl->Uo,lt_of_lt_of_le->Ut,ne_of_lt->UK,le_trans->UO,lt_irrefl->Vb,zero_le->Vd,lt_or_ge->Wg,le_of_lt->WC,le_succ_of_le->WE,lt_succ_of_lt->W8,ne_of_gt->Xg,zero_add->Xi,min_eq_left->Xy,lt_of_le_of_lt->XB,add_comm->XR,lt_succ_self->X3,min_le_right->X4,min_eq_right->X6,add_assoc->Yb,not_lt_zero->Ym,lt_trans->Ys,ble->Yv,lt_of_lt_of_eq->YJ,le_succ->Y0,succ_le_succ->Zp,add_sub_cancel_left->Zy,le_total->ZO,lt_of_succ_lt_succ->ZR,not_lt->aaT,mul_comm->aa2,lt_succ_of_le->aa3,sub_zero->aa8
open PySem.Str renaming ofString->UC,ofString_eq_toList->ZQ
open Bool renaming and_eq_true->UD,false_ne_true->UG,not_eq_true'->V9,false_eq_true->Wq,or_eq_true->WZ,and_self->Xu,eq_iff_iff->Xx,false_and->aac,and_true->aaI,false_or->abP,true_and->abR
open Option renaming getD_some->UH,map_some->WB,isSome_iff_exists->Xq,isSome_map->Y3,isSome_some->aaS,getD_none->abj,none->abY
open PySem.Value renaming ref->UJ,none->Wl,int->Xf,type->Xz,str->X0,bool->YC,float->abt,isStrOf->abN
open PySem.PyData renaming keyHash->UX,canLayAll0->VW,leavesShort->Wu,depthAll->W2,list->Xe,strOk->XW,leavesShortAll->XZ,str->X8,showable->Yn,tuple->Yy,eqv->YL,int->YQ,showableAll->YR,canLay0->YS,hasDictAll->Y7,shown_fits_bulk->ZT,hasDict->aap,bulkAll->aaq,depth->abc,bulk->abC
open Array renaming getD_eq_getD_getElem?->U5,getElem?_eq_getElem->Vj,length_toList->VX,getElem?_toList->W5,append_assoc->aaL,toList_inj->abn,toList->abT
open PySem.AutoSeq1 renaming wpAny_loadPart'->Vf,idx_int->ZA
open Option.some renaming inj->Vg,injEq->W9
open PyProof.Rows renaming slot_tuple_getitem->Vi,callWith_type1->VO,seqObj->WU,StrsAre->Yt,isStrOf->Yx,envOfC->YG,AllBare->YX,sortedS->Y4,subscriptTail->Zc,listUpdate_at->Zh,subscriptTail_builtinR->ZG,sortedHeap->ZM,entry_list_sort->ZY,slot_list_sort->Z9,args_list_sort->aaa,entry_tuple_getitem->aaw,Constant_none->aaD,sortedAll_old->aaG,args_tuple_getitem->aaN,plain_sorted->aa4,entry_sorted->aa5,args_sorted1->aa6,sortedAll_at->aa7,SortKind->aa9,listItems_at->aba,sortedAll->abo,kind_sorted->aby,seqEpoch_at->abz,IntsAre->abG
open Int renaming toNat_natCast->Vr,eq_ofNat_of_zero_le->Vw,emod_lt_of_pos->Wt,emod_nonneg->W3,zero_add->XU,toNat->YB,toNat_of_nonneg->aaB,natCast_mul->abE
open PySem.Builtin.SmallTypes renaming nextOf->Vs,ownedTupleIsFree->Xv,ownedTupleHandOut->aaA
open PySem.Builtin.Tuple renaming tupleExact->VI,tupleItemsOf->YI,tupleTooMany->YO
open False renaming elim->VR
open PySem.F renaming slot_tuple_iterator_next->VU,slot_tuple_mul->Wf,slot_zip_next->W6,args_tuple_add_2->Xr,args_tuple_mul_2->Xw,args_tuple_iterator_next_1->XD,entry_tuple_add->XE,entry_tuple_mul->XG,entry_tuple_iterator_next->XH,slot_tuple_add->XO,slot_dict_get->XY,slot_dict_getitem->YU,slot_str_eq_refl->Zg,plainAttrs_tuple->Zi,slot_tuple_index->Zj,type_tuple_index->Zk,args_dict_get_3->Zq,slot_tuple_rmul->Zt,args_zip_next_1->Zx,entry_dict_get->ZL,entry_zip_next->ZP,slot_int_rmul->Z6,sub_str_dict->aaj,slot_dict_eq->aak
open Sum renaming inr->VZ,inl->aas
open Ne renaming symm->V3
open PySem.NameKind renaming free->Wh,cell->Wi
open True renaming intro->Wn
open PySem.Obj renaming mapSeq->Wo,data_mapFields->aaU
open PySem.Builtin.Slice renaming slicePlaces->Ww,sliceAdjust->Xj,sliceApplied->YH
open PySem.Builtin.Str renaming occurrences->WM
open PySem.Builtin.Dict renaming updateFrom->WQ,addKeywords->Ze,selfAndRest->Zf
open List.Nodup renaming length_le_of_subset->WS
open ForInStep renaming yield->WX
open PySem.Calls renaming call_function_entry->Xk,spliced_cons->XA,callWith_builtin->XQ,evalArgs_plain->Yc,Name_function_global->YD,spliced_nil->YY
open PySem.Paired renaming length->Xp,snoc->abZ
open PySem.Builtin.List renaming listTooLong->Xt,listExtendWith->X7
open Decidable renaming byContradiction->YV
open PySem.Builtin.Range renaming rangeSize->Zn
open PySem.Heap.DictOf renaming new->ZW
open Sum.inr renaming inj->aab
open PySem.Around renaming under_plainId->aag
open Or renaming inr->aah,inl->abl
open Std.Legacy.Range renaming forIn_eq_forIn_range'->aan,size->abW
open List.Pairwise renaming of_map->aao
open PySem.Heap.SameBut renaming update->aaz
open PySem.SeqAt.EqAt renaming int_str->aaJ,str_int->aaK,str_str->aaP
open Char renaming toNat->aaW
open And renaming intro->abk
open List.cons renaming injEq->abD
open List.Perm renaming refl->abL
open Exists renaming intro->abV
open PySem.IsRange renaming new->abX
open PySem.Shared renaming heap->ab0
open PySem.Heap.IsSliceOf renaming new->ab1
set_option genSizeOf false
set_option compiler.extract_closed false
set_option bootstrap.genMatcherCode false
namespace PySem.W.Fast
def tw9764844173010898667:=0
def tw13096339404211644614:=0
def tw2157713959437968799:=0
def tw8642155527394229857:=0
def tw3983701901802158081:=0
def tw4551430101723499140:=0
def tw16168109874944246688:=0
def tw3928244566829310301:=0
def tw12826393318857095467:=0
def tw2616249300794460252:=0
def tw10732163882579316032:=0
def tw2344973996396209269:=0
def tw3611064174534627442:=0
def tw12675052483182097856:=0
def tw10749519105047728819:=0
def tw11239270757994905115:=0
def tw15592766457337986536:=0
def tw1600307087809559629:=0
def tw18216519353732035145:=0
def tw1964409189069169659:=0
def tw5509298482023916549:=0
def tw7574559764070677870:=0
def tw9017203384634108940:=0
def tw7480817538667151670:=0
def tw4689040494790195726:=0
def tw690703503114137659:=0
def tw9585796950225831797:=0
def tw11200773844771293479:=0
def tw6106994970455770573:=0
def tw6920740123924779679:=0
def tw11746541303176313178:=0
def tw5008971422500685832:=0
def tw4249512542317745663:=0
def tw2627611933559324991:=0
def tw5592088171696625184:=0
def tw12241142436696363302:=0
def tw7758842095313931756:=0
def tw11435600676058191376:=0
def tw7649500613330024201:=0
def tw832134637465424049:=0
def tw350926159227046574:=0
def tw13035573403904612062:=0
def tw15075210410443888124:=0
def tw17081340406738803864:=0
def tw8610219311939150999:=0
def tw14263339049224958482:=0
def tw275331613771985372:=0
def tw15309232423490044232:=0
def tw1160969038848396654:=0
def tw16603373257064291420:=0
def tw4014396372830294550:=0
def tw15048666217880069217:=0
def tw15105337295945460602:=0
def tw3851252055459211944:=0
def tw1610079179032164482:=0
def tw8052611376134296731:=0
def tw17521839586183606876:=0
def tw12703960484695236975:=0
def tw7556338767622736002:=0
def tw14946689965538620398:=0
def tw7656692287863749966:=0
def tw14401384558107489174:=0
def tw1917751066877324545:=0
def tw14378533666982900937:=0
def tw10425770518127860008:=0
def tw16592812952524346567:=0
def tw9810643232828364888:=0
def tw7237784793147999463:=0
def tw12755801825572847223:=0
def tw239646577822949389:=0
def tw6978691085110859048:=0
def tw17064555606185311219:=0
def tw1831676363868636115:=0
def tw12668796002283113341:=0
def tw727140372473397851:=0
def tw16995754289590952936:=0
def tw4434654178236975456:=0
def tw13716393096633743594:=0
def tw2609348815549750117:=0
def tw8601692845331064032:=0
def tw1561658589281974241:=0
def tw3553177375911964601:=0
def tw5013238397157338455:=0
def tw13307628201008748355:=0
def tw13586698320847647414:=0
def tw15347796042444040477:=0
def tw15373038587123870678:=0
def tw9359577845114349488:=0
def tw12237840727438449885:=0
def tw7548527121889160833:=0
def tw3814658799739741660:=0
def tw8475161630905213857:=0
def tw9766172974192123112:=0
def tw9530750924168615525:=0
def tw11255949459821954409:=0
def tw16876257180031747004:=0
def tw2243924838490925064:=0
def tw16699681971303006000:=0
def tw15410642241716817513:=0
def tw18386449485938759844:=0
def tw15055214515484713696:=0
def tw5388350038475146859:=0
def tw11073820265381186587:=0
def tw17415137704602307203:=0
def tw12598470390442634753:=0
def tw8969464671724072795:=0
def tw1525820354776165718:=0
def tw594300764097072301:=0
def tw4669792386089220419:=0
def tw9215141881811006735:=0
def tw2057689675245400699:=0
def tw8640007106043616190:=0
def tw10692902127095047984:=0
def tw4789059085573752783:=0
def tw10711377204341243389:=0
def tw12847499738965358130:=0
def tw9174570488008916730:=0
def tw15233627214590753739:=0
def tw15611628074432978888:=0
def tw4927658489022570936:=0
def tw10939475719482831311:=0
def tw8968705750702070175:=0
def tw14409635666632895066:=0
def tw9432575075327673438:=0
def tw7472491961151758777:=0
def tw125233494728180438:=0
def tw14049184563689250205:=0
def tw18414320611798571588:=0
def tw2738594731598116289:=0
def tw17422062894564129630:=0
def tw11241326852190201474:=0
def tw11805340049747166748:=0
def tw15716637084842071451:=0
def tw9560562925758020252:=0
def tw8883728451958580472:=0
def tw9333663665074517678:=0
def tw13399477370887778393:=0
def tw14414207687162662243:=0
def tw1572543246260347369:=0
def tw17947935485871915478:=0
def tw14325983210254172532:=0
def tw13644415590734464196:=0
def tw10427627764466880537:=0
def tw13772198775665764607:=0
def tw15323288623608412233:=0
def tw15137556457115257429:=0
def tw2325430452024283245:=0
def tw8601264118734438322:=0
def tw15578386379933459285:=0
def tw14616791675538360828:=0
def tw14233175506720152341:=0
def tw1100108116135362353:=0
def tw4531214793644442426:=0
def tw14261635530789744175:=0
def tw4153469424152282227:=0
def tw1273892499234497054:=0
def tw16205981003698838164:=0
def tw10285214252279633647:=0
def tw15734883906122655624:=0
def tw13977309537964661209:=0
def tw12373757107459046906:=0
def tw7713731051714108144:=0
def tw6681278270357743117:=0
def tw16772364293105578292:=0
def tw1562382248518075036:=0
def tw5457821269398733901:=0
def tw3265874027106882568:=0
def tw1637359050784931005:=0
def tw15889234575117862969:=0
def tw8615397335173577757:=0
def tw8767206820035207413:=0
def tw9751134192607702317:=0
def tw3700267274408729575:=0
def tw7523193935536368091:=0
def tw7957269631914047942:=0
def tw6628471124697862472:=0
def tw6325938689694121980:=0
def tw3288446635319562554:=0
def tw1369611204323619363:=0
def tw17551480299759270412:=0
def tw1880901989114743587:=0
def tw7955833213836666895:=0
def tw9314059703609654614:=0
def tw4922002693321401016:=0
def tw4156871887347926606:=0
def tw6337296728835277071:=0
def tw12871352835470153487:=0
def tw8574280547050783025:=0
def tw12587771464619091473:=0
def tw13611335711757188594:=0
def tw15378300853075223617:=0
def tw6764930175225946816:=0
def tw4463716766351858326:=0
def tw2370624676553662480:=0
def tw1518879917464301777:=0
def tw3671510097344969990:=0
def tw13485824924487513557:=0
def tw12844884028294908584:=0
def tw10629550833313334746:=0
def tw6265566557804424361:=0
def tw6558137884902220788:=0
def tw6067581312815539193:=0
def tw2262348970634475683:=0
def tw8446668804858047226:=0
def tw11786982312401767899:=0
def tw12522031686861121969:=0
def tw946745234655165419:=0
def tw2302403648237897314:=0
def tw10121624040862962601:=0
def tw3424356865918722477:=0
def tw3426864778018700870:=0
def tw1295806818041296366:=0
def tw17782062589996885565:=0
def tw12450299393561823373:=0
def tw16477561213749270032:=0
def tw12859732840994783502:=0
def tw16120517700883549256:=0
def tw13458279640728121122:=0
def tw10138630185202607546:=0
def tw11194338539779054274:=0
def tw18438897521916063593:=0
def tw15854507657020582219:=0
def tw657080029645421824:=0
def tw7361631753278933240:=0
def tw15229058507860938261:=0
def tw12411366362836690173:=0
def tw16870143679470999062:=0
def tw745197735677230258:=0
def tw3555960176413915612:=0
def tw8744832237389519348:=0
def tw15750987532021817052:=0
def tw3485988023949496586:=0
def tw15142976271250360147:=0
def tw13920126477349542413:=0
def tw14986927862871026697:=0
def tw16775605164529743615:=0
def tw6310817666814373394:=0
def tw12647221572582458171:=0
def tw12569126624309208393:=0
def tw13218143997825157621:=0
def tw6757872823236704989:=0
def tw612623269463608517:=0
def tw15742746238690365757:=0
def tw13568373289686557340:=0
def tw11956931218591837346:=0
def tw13232376611141728492:=0
def tw17663112937394938641:=0
def tw7674480662728791671:=0
def tw14339039665065017425:=0
def tw2378624519753508023:=0
def tw10282782536265740576:=0
def tw7663068229560442440:=0
def tw17682439118834269418:=0
def tw5481180340371303174:=0
def tw16015994832138889146:=0
def tw8074423167189127573:=0
def tw9025391806667263133:=0
end PySem.W.Fast
noncomputable section
set_option Elab.async false
set_option linter.all false
set_option maxRecDepth 100000
section
namespace L2
open PySem PySem.Spec PyProof.Rows
abbrev Key:=Sum Int Str
noncomputable def pI:Key->Value->Bool
 | .inl k,v=>Value.isInt k v
 | .inr x,v=>abN x v
noncomputable def SM(w:World):Key->Int
 | .inl k=>hashInt k
 | .inr x=>hashStr w x
theorem bO: ∀{k:Key}{v:Value},pI k v=true->(∃ i t,k=aas i/\v=Xf i t)\/(∃ x t,k=VZ x/\v=X0 x t)
 | .inl i,v,h=>by
  obtain⟨t,e⟩:=Value.isInt_shape (k:=i) (v:=v) h;exact .inl ⟨i,t,rfl,e⟩
 | .inr x,v,h=>by
  obtain⟨t,e⟩:=Value.isStrOf_shape (x:=x) (v:=v) h;exact .inr ⟨x,t,rfl,e⟩
theorem Bk(i:Int)(t:Tok):pI (.inl i) (.int i t)=true:=by simp[pI,Value.isInt]
theorem mC(x:Str)(t:Tok):pI (.inr x) (.str x t)=true:=by simp[pI,abN]
theorem NX(a b:Int):decide ((aas a:Key)=aas b)=(a == b):=by
 by_cases e:a=b
 . subst e;simp
 . have h: ¬ (aas a:Key)=aas b:=λq=>e (Sum.inl.inj q);rw[decide_eq_false h];exact(beq_eq_false_iff_ne.mpr e).symm
theorem Nl(a b:Str):decide ((VZ a:Key)=VZ b)=decide (a=b):=by
 by_cases e:a=b
 . subst e;simp
 . have h: ¬ (VZ a:Key)=VZ b:=λq=>e (aab q);rw[decide_eq_false h,decide_eq_false e]
theorem Ld(a:Int)(b:Str):decide ((aas a:Key)=VZ b)=false:=decide_eq_false (λq=>nomatch q)
theorem KO(a:Str)(b:Int):decide ((VZ a:Key)=aas b)=false:=decide_eq_false (λq=>nomatch q)
noncomputable def aH(prog:UN)(w:World):PySem.KeyKind prog w Key where
 is:=pI
 hash:=SM w
 inj:=λv a b ha hb=>by
  rcases bO ha with⟨i,t,rfl,rfl⟩ | ⟨x,t,rfl,rfl⟩
  . rcases bO hb with⟨j,u,rfl,e⟩ | ⟨y,u,rfl,e⟩
    . injection e with e1 _;rw[e1]
    . exact nomatch e
  . rcases bO hb with⟨j,u,rfl,e⟩ | ⟨y,u,rfl,e⟩
    . exact nomatch e
    . injection e with e1 _;rw[e1]
 byValue:=λk v h=>by
  rcases bO h with⟨i,t,rfl,rfl⟩ | ⟨x,t,rfl,rfl⟩<;>rfl
 pyHash:=λhv h=>by
  rcases bO hv with⟨i,t,rfl,rfl⟩ | ⟨x,t,rfl,rfl⟩
  . exact wpAny_pyHash_int h
  . exact wpAny_pyHash_str h
 eqBool:=λhu hv h=>by
  rcases bO hu with⟨i,t,rfl,rfl⟩ | ⟨x,t,rfl,rfl⟩
  . rcases bO hv with⟨j,u,rfl,rfl⟩ | ⟨y,u,rfl,rfl⟩
    . rw[NX] at h;exact wpAny_eqBool_int h
    . rw[Ld] at h;exact aaJ i t y u _ _ _ _ h
  . rcases bO hv with⟨j,u,rfl,rfl⟩ | ⟨y,u,rfl,rfl⟩
    . rw[KO] at h;exact aaK x t j u _ _ _ _ h
    . rw[Nl] at h;exact wpAny_eqBool_str h
 «strs» :=λk x t v h=>by
  rcases bO h with⟨i,u,rfl,e⟩ | ⟨y,u,rfl,e⟩
  . exact nomatch e
  . injection e with e1 _;subst e1;cases v<;>rfl
theorem vz(prog:UN)(w:World)(i:Int)(t:Tok):(aH prog w).is (.inl i) (.int i t)=true:=Bk i t
theorem uX(prog:UN)(w:World)(x:Str)(t:Tok):(aH prog w).is (.inr x) (.str x t)=true:=mC x t
inductive V where
 | non | bl (b:Bool) | int (i:Int) | str (x:Str) | byt (b:Array UInt8) | flt (b:UInt64) | ref (a:Addr) | ty (n:String)
 deriving DecidableEq
noncomputable def RelV:V->Value->Prop
 | .non,u=>u=Wl
 | .bl b,u=>u=YC b
 | .int i,u=> ∃ t,u=Xf i t
 | .str x,u=> ∃ t,u=X0 x t
 | .byt b,u=> ∃ t,u=Value.bytes b t
 | .flt b,u=> ∃ t,u=abt b t
 | .ref a,u=>u=UJ a
 | .ty n,u=>u=Xz n
abbrev Vals:List V->List Value->Prop:=Vt RelV
theorem Vals.length{xs:List V}{us:List Value}(r:Vals xs us):xs.length=us.length:=Xp r
theorem Vals.get: ∀{xs:List V}{us:List Value}{i:Nat}{x:V},Vals xs us->xs[i]?=some x-> ∃ u,us[i]?=some u/\RelV x u
 | _,_,_,_,.nil,e=>by simp at e
 | _,_,0,_,.cons r _,e=>by simp at e;subst e;exact⟨_,rfl,r⟩
 | _,_,i+1,x,.cons _ t,e=>by
  obtain⟨u,h1,h2⟩:=Vals.get (i:=i) (x:=x) t (by simpa using e);exact⟨u,by simpa using h1,h2⟩
theorem Vals.set{x:V}{u:Value}(r:RelV x u): ∀{xs:List V}{us:List Value}(i:Nat),Vals xs us->Vals (xs.set i x) (us.set i u)
 | _,_,_,.nil=> .nil
 | _,_,0,.cons _ t=> .cons r t
 | _,_,i+1,.cons q t=> .cons q (Vals.set r i t)
theorem Vals.append: ∀{xs ys:List V}{us ws:List Value},Vals xs us->Vals ys ws->Vals (xs++ys) (us++ws)
 | _,_,_,_,.nil,s=>s
 | _,_,_,_,.cons r t,s=> .cons r (Vals.append t s)
theorem Vals.take: ∀{xs:List V}{us:List Value}(n:Nat),Vals xs us->Vals (xs.take n) (us.take n)
 | _,_,0,_=> .nil
 | _,_,_+1,.nil=> .nil
 | _,_,n+1,.cons r t=> .cons r (Vals.take n t)
theorem Vals.drop: ∀{xs:List V}{us:List Value}(n:Nat),Vals xs us->Vals (xs.drop n) (us.drop n)
 | _,_,0,r=>r
 | _,_,_+1,.nil=> .nil
 | _,_,n+1,.cons _ t=>Vals.drop n t
noncomputable def lN:Option V->Option Value->Prop
 | some v,some u=>RelV v u
 | none,none=>True
 | _,_=>False
noncomputable def KV{κ :Type}:List (κ × V)->List (κ × Value)->Prop:=Vt λ(p: κ × V) (q: κ × Value)=>p.1=q.1/\RelV p.2 q.2
noncomputable def kV:Key->V
 | .inl i=> .int i
 | .inr x=> .str x
inductive HO where
  | lst (xs:List V)
  | tup (xs:List V)
  | dK (kvs:List (Key × V)) | dT (kvs:List (List Key × V))
  | set (S:Int->Bool) (n:Nat)
  | ins (C dx:Addr) (fs:List (Str × V))
  | own (x:Addr)
  | xd (fs:List (Str × V))
  | met (f x:Addr)
  | rR (lo hi:Int)
  | kI (o:Obj) (u:HO)
  | tbl (ps:Array Value)
  | ext (φ :Heap->Prop)
abbrev Hp:=Addr->Option HO
noncomputable def upd(H:Hp)(a:Addr)(o:HO):Hp:=λb=>if b=a then some o else H b
theorem bz{H:Hp}{a:Addr}{o:HO}:upd H a o a=some o:=by unfold upd;rw[if_pos rfl]
theorem aB{H:Hp}{a b:Addr}{o:HO}(h:b≠a):upd H a o b=H b:=by unfold upd;rw[if_neg h]
theorem rQ{H:Hp}{a b:Addr}{o u:HO}(h:H a=some o)(h':H b=some u)(d:o≠u):a≠b:=by
 intro e;subst e;rw[h] at h';exact d (Vg h')
theorem aC{H:Hp}{a b:Addr}{o:HO}(h:H a=some o)(h':H b=none):a≠b:=by
 intro e;subst e;rw[h] at h';cases h'
noncomputable def qQ(h:Heap)(a:Addr)(items:Array Value):Prop:= ∃ o,h.get? a=some o/\o.cls= .type "tuple" /\ ∃ n,o.data= .seq items n/\o.dict=none
theorem qQ.tup{h:Heap}{a:Addr}{items:Array Value}(x:qQ h a items):IsTup h a items:=let ⟨o,e,c,n,d,_⟩:=x;⟨o,e,c,n,d⟩
theorem qQ.new(h:Heap)(items:Array Value):qQ (h.push { cls:= .type "tuple",data:= .seq items }) h.objs.size items:=⟨_,UB _ rfl,rfl,_,rfl,rfl⟩
section
variable(P:UN)(w:World)
noncomputable def ba(H:Hp)(h:Heap)(a:Addr):HO->Prop
 | .lst xs=>xs.length<=sizeLine/\ ∃(aj:List Value)(n:Nat),Vals xs aj/\h.get? a=some { cls:= .type "list",data:= .seq aj.toArray n }
 | .tup xs=>xs.length<=sizeLine/\ ∃ aj:List Value,Vals xs aj/\qQ h a aj.toArray
 | .dK kvs=>kvs.length<=sizeLine/\(a == Vx)=false/\ ∃ vs,KV kvs vs/\h.DictOf (aH P w) a vs
 | .dT kvs=>kvs.length<=sizeLine/\(a == Vx)=false/\ ∃ xs:List (List Key × Addr × Value),
   Vt (λ(p:List Key × V) (q:List Key × Addr × Value)=>p.1=q.1/\H q.2.1=some (.tup (p.1.map kV))/\RelV p.2 q.2.2) kvs xs /\
   ∃ o es ep,h.get? a=some o/\o.ExactDict/\o.data= .dict es ep/\es.toList=xs.map (entryOfKey (Zl (aH P w)))/\(xs.map (·.1)).Nodup
 | .set S n=>h.SetOf (intKind P w) a S n
 | .ins C dx fs=>H dx=some (.own a)/\fs.length<=1000/\dx≠a/\h.get? a=some (Wx C dx) /\
   ∃ mA,h.Ns1 dx mA/\(∀ f,lN (fs.lookup f) (mA f))/\abS mA (fs.map (·.1))
 | .own _=> ∃ o,h.get? a=some o
 | .xd fs=> ∃ mA,h.Ns1 a mA/\ ∀ f,lN (fs.lookup f) (mA f)
 | .rR lo hi=> ∃ t u v,h.get? a=some { cls:= .type "range",data:= .fields #[.int lo t,.int hi u,.int 1 v] }
 | .kI o u=>h.get? a=some o∧ba H h a u
 | .tbl ps=>h.get? a=some { cls:= .none,data:= .fields ps }
 | .met f x=>h.get? a=some (YW (.ref f) (.ref x))
 | .ext φ => φ h∧(∃ o,h.get? a=some o)∧ ∀ h1 h2:Heap, φ h1->(∀ o,h1.get? a=some o->h2.get? a=some o)-> φ h2
noncomputable def ka (H:Hp) (h:Heap):Prop:= ∀ a o,H a=some o->ba P w H h a o
end
section
variable{P:UN}{w:World}{H H':Hp}{h h':Heap}{a:Addr}{o:HO}
theorem ba.lt(x:ba P w H h a o):a < h.objs.size:=by
 cases o with
 | lst xs=>obtain⟨_,_,_,_,e⟩:=x;exact Ux e
 | tup xs=>obtain⟨_,_,_,p⟩:=x;exact p.tup.lt
 | dK kvs=>obtain⟨_,_,_,_,o,_,_,e,_⟩:=x;exact Ux e
 | dT kvs=>obtain⟨_,_,_,_,o,_,_,e,_⟩:=x;exact Ux e
 | set S n=>obtain⟨o,_,_,_,e,_⟩:=x;exact Ux e
 | ins C dx fs=>obtain⟨_,_,_,e,_⟩:=x;exact Ux e
 | own y=>obtain⟨_,e⟩:=x;exact Ux e
 | xd fs=>obtain⟨_,⟨_,_,_,e,_⟩,_⟩:=x;exact Ux e
 | rR lo hi=>obtain⟨_,_,_,e⟩:=x;exact Ux e
 | kI ob u=>obtain⟨e,_⟩:=x;exact Ux e
 | tbl ps=>exact Ux (show h.get? a=some _ from x)
 | met f y=>exact Ux (show h.get? a=some _ from x)
 | ext φ =>obtain⟨_,⟨_,e⟩,_⟩:=x;exact Ux e
theorem Paired.Be{α β :Type}{F G: α -> β ->Prop}: ∀{l₁ :List α}{l₂ :List β},Vt F l₁ l₂ ->(∀ a b,F a b->G a b)->Vt G l₁ l₂
 | _,_,.nil,_=> .nil
 | _,_,.cons r t,f=> .cons (f _ _ r) (Paired.Be t f)
theorem ba.uk(x:ba P w H h a o)(k: ∀ b u,(b=a\/H b=some (.own a))->h.get? b=some u->h'.get? b=some u)
  (ho: ∀ b,H b=some (.own a)->H' b=some (.own a)) (ht: ∀ b xs,H b=some (.tup xs)->H' b=some (.tup xs)):ba P w H' h' a o:=by
 induction o with
 | lst xs=>obtain⟨z,aj,n,r,e⟩:=x;exact⟨z,aj,n,r,k _ _ (.inl rfl) e⟩
 | tup xs=>obtain⟨z,aj,r,ob,e,c⟩:=x;exact⟨z,aj,r,ob,k _ _ (.inl rfl) e,c⟩
 | dK kvs=>obtain⟨z,y,vs,r,ob,es,ep,e,c⟩:=x;exact⟨z,y,vs,r,ob,es,ep,k _ _ (.inl rfl) e,c⟩
 | dT kvs =>
  obtain⟨z,y,xs,r,ob,es,ep,e,c⟩:=x
  exact⟨z,y,xs,Paired.Be r λp q z=>⟨z.1,ht _ _ z.2.1,z.2.2⟩,ob,es,ep,k _ _ (.inl rfl) e,c⟩
 | set S n=>obtain⟨ob,es,ep,t,e,c⟩:=x;exact⟨ob,es,ep,t,k _ _ (.inl rfl) e,c⟩
 | ins C dx fs =>
  obtain⟨d,z,ne,e,mA,⟨od,es,ep,e2,c⟩,r⟩:=x
  exact⟨ho _ d,z,ne,k _ _ (.inl rfl) e,mA,⟨od,es,ep,k _ _ (.inr d) e2,c⟩,r⟩
 | own y=>obtain⟨ob,e⟩:=x;exact⟨ob,k _ _ (.inl rfl) e⟩
 | xd fs=>obtain⟨mA,⟨od,es,ep,e,c⟩,r⟩:=x;exact⟨mA,⟨od,es,ep,k _ _ (.inl rfl) e,c⟩,r⟩
 | rR lo hi=>obtain⟨t,u,v,e⟩:=x;exact⟨t,u,v,k _ _ (.inl rfl) e⟩
 | kI ob u ih=>obtain⟨e,q⟩:=x;exact⟨k _ _ (.inl rfl) e,ih q⟩
 | tbl ps =>
  have e:h.get? a=some { cls:= .none,data:= .fields ps }:=x
  show h'.get? a=some { cls:= .none,data:= .fields ps }
  exact k a _ (.inl rfl) e
 | met f y =>
  have e:h.get? a=some (YW (.ref f) (.ref y)):=x
  show h'.get? a=some (YW (.ref f) (.ref y))
  exact k a _ (.inl rfl) e
 | ext φ =>obtain⟨p,⟨o,e⟩,st⟩:=x;exact⟨st _ _ p λo q=>k _ _ (.inl rfl) q,⟨o,k _ _ (.inl rfl) e⟩,st⟩
theorem ka.lt(x:ka P w H h)(e:H a=some o):a < h.objs.size:=(x a o e).lt
theorem ka.fresh(x:ka P w H h)(e:h.objs.size<=a):H a=none:=by
 cases q:H a with
 | none=>rfl
 | some u=>exact absurd (Ut (x.lt q) e) (Vb _)
theorem ka.kept(x:ka P w H h)(k: ∀ b u,h.get? b=some u->h'.get? b=some u):ka P w H h':=λa o e =>
 (x a o e).uk (λb u _ q=>k b u q) (λ_ q=>q) λ_ _ q=>q
theorem ka.laid(x:ka P w H h)(k: ∀ b u,h.get? b=some u->h'.get? b=some u)(hp:h.objs.size<=a)(new:ba P w (upd H a o) h' a o):ka P w (upd H a o) h':=λb u e=>by
 have hn:=x.fresh hp;by_cases hb:b=a
 . subst hb;rw[bz] at e;cases e;exact new
 . rw[aB hb] at e;exact(x b u e).uk (λc v _ q=>k c v q) (λc q=>by rw[aB (aC q hn)];exact q) λc xs q=>by rw[aB (aC q hn)];exact q
end
noncomputable def Rd(H:Hp)(a:Addr)(u:HO):Prop:=H a=some u\/ ∃ o,H a=some (.kI o u)
theorem Rd.of{H:Hp}{a:Addr}{u:HO}(h:H a=some u):Rd H a u:= .inl h
theorem Rd.ok{P:UN}{w:World}{H:Hp}{h:Heap}{a:Addr}{u:HO}(r:Rd H a u)(x:ka P w H h):ba P w H h a u:=by
 rcases r with r | ⟨o,r⟩
 . exact x a u r
 . obtain⟨_,q⟩:=x a _ r;exact q
noncomputable def P7:Option HO->Prop
 | some (.lst _)=>True
 | some (.dK _)=>True
 | some (.dT _)=>True
 | some (.set _ _)=>True
 | some (.ins _ _ _)=>True
 | some (.ext _)=>True
 | _=>False
section
variable{P:UN}{w:World}{H:Hp}{h h':Heap}{x e:Addr}{o':HO}
theorem ka.write(ok:ka P w H h)(mu:P7 (H x))(he:e=x\/H e=some (.own x))(k: ∀ b u,b≠e->h.get? b=some u->h'.get? b=some u)(heo: ∃ u,h'.get? e=some u)
  (new:ba P w (upd H x o') h' x o'):ka P w (upd H x o') h':=λb u q=>by
 have nown: ∀ c y,H c=some (.own y)->c≠x:=λc y r z=>by subst z;rw[r] at mu;exact mu
 have ntup: ∀ c xs,H c=some (.tup xs)->c≠x:=λc xs r z=>by subst z;rw[r] at mu;exact mu
 by_cases hb:b=x
 . subst hb;rw[bz] at q;cases q;exact new
 . rw[aB hb] at q;by_cases hbe:b=e
   . have q':H b=some (.own x):=by
      rcases he with z | z
      . exact absurd (hbe.trans z) hb
      . rw[hbe];exact z
     rw[q] at q';cases q';obtain⟨v,hv⟩:=heo;exact⟨v,by rw[hbe];exact hv⟩
   . refine(ok b u q).uk (λc v hc r=>k c v ?_ r) (λc r=>by rw[aB (nown c b r)];exact r) λc xs r=>by rw[aB (ntup c xs r)];exact r
     rcases hc with rfl | hc
     . exact hbe
     . rintro rfl;rcases he with z | z
       . exact nown c b hc z
       . rw[hc] at z;cases z;exact hb rfl
end
structure Un(fs ex:List Addr)(H H':Hp)(h h':Heap):Prop where
 keep: ∀ b o,h.get? b=some o->H b=none->b ∉ fs->b ∉ ex->h'.get? b=some o
 slot: ∀ b o,h.get? b=some o->H b=none->b∈fs->b ∉ ex-> ∃ sl,h'.get? b=some { o with slots:=sl }
 free: ∀ b o,h.get? b=some o->H b=none->b ∉ ex->H' b=none
 there: ∀ b o,h.get? b=some o->b ∉ ex-> ∃ o',h'.get? b=some o'
 m6: ∀ b xs,H b=some (.tup xs)->H' b=some (.tup xs)
 l6: ∀ b o u,H b=some (.kI o u)->H' b=some (.kI o u)
 nX: ∀ b ps,H b=some (.tbl ps)-> ∃ more,H' b=some (.tbl (ps++more))
section
variable{fs fs' ex ex':List Addr}{H H1 H2:Hp}{h h1 h2 h':Heap}{a x e:Addr}{o:HO}
theorem Un.any(u:Un fs ex H H1 h h1){b:Addr}{ob:Obj}(q:h.get? b=some ob)(n:H b=none)(hx:b ∉ ex): ∃ sl,h1.get? b=some { ob with slots:=sl }:=by
 by_cases hb:b∈fs
 . exact u.slot b ob q n hb hx
 . exact⟨ob.slots,u.keep b ob q n hb hx⟩
theorem Un.trans(a:Un fs ex H H1 h h1)(b:Un fs ex H1 H2 h1 h2):Un fs ex H H2 h h2 where
 keep:=λc ob q n hc hx=>b.keep c ob (a.keep c ob q n hc hx) (a.free c ob q n hx) hc hx
 slot:=λc ob q n hc hx=>by
  obtain⟨sl,e1⟩:=a.slot c ob q n hc hx;obtain⟨sl',e2⟩:=b.slot c _ e1 (a.free c ob q n hx) hc hx;exact⟨sl',e2⟩
 free:=λc ob q n hx=>by
  obtain⟨o',e1⟩:=a.there c ob q hx;exact b.free c o' e1 (a.free c ob q n hx) hx
 there:=λc ob q hx=>by
  obtain⟨o',e1⟩:=a.there c ob q hx;exact b.there c o' e1 hx
 m6:=λc xs q=>b.m6 c xs (a.m6 c xs q)
 l6:=λc ob xs q=>b.l6 c ob xs (a.l6 c ob xs q)
 nX:=λc ps q=>by
  obtain⟨m1,e1⟩:=a.nX c ps q;obtain⟨m2,e2⟩:=b.nX c _ e1;exact⟨m1++m2,by rw[e2,aaL]⟩
theorem Un.kept(k: ∀ b u,h.get? b=some u->h'.get? b=some u):Un fs ex H H h h' :=
 ⟨λb ob q _ _ _=>k b ob q,λb ob q _ _ _=>⟨ob.slots,k b ob q⟩,λ_ _ _ n _=>n,λb ob q _=>⟨ob,k b ob q⟩,λ_ _ q=>q,λ_ _ _ q=>q,λ_ ps q=>⟨#[],by rw[q];simp⟩⟩
theorem Un.refl:Un fs ex H H h h:=Un.kept λ_ _ q=>q
theorem Un.laid(k: ∀ b u,h.get? b=some u->h'.get? b=some u)(hp:h.objs.size<=a)(hn:H a=none):Un fs ex H (upd H a o) h h' where
 keep:=λb u q _ _ _=>k b u q
 slot:=λb u q _ _ _=>⟨u.slots,k b u q⟩
 free:=λb u q n _=>by rw[aB (UK (Ut (Ux q) hp))];exact n
 there:=λb u q _=>⟨u,k b u q⟩
 m6:=λb xs q=>by rw[aB (aC q hn)];exact q
 l6:=λb u xs q=>by rw[aB (aC q hn)];exact q
 nX:=λb ps q=>⟨#[],by rw[aB (aC q hn),q];simp⟩
theorem Un.write(mu:P7 (H x))(he:e=x\/H e=some (.own x))(k: ∀ b u,b≠e->h.get? b=some u->h'.get? b=some u)(heo: ∃ u,h'.get? e=some u):Un fs ex H (upd H x o) h h':=by
 have hx: ∀ b,H b=none->b≠x:=λb n z=>by subst z;rw[n] at mu;exact mu
 have hb: ∀ b,H b=none->b≠e:=λb n z=>by
  subst z;rcases he with r | r
  . exact hx b n r
  . rw[n] at r;cases r
 have hm: ∀ b u,H b=some u-> ¬ P7 (some u)->b≠x:=λb u q nm z=>by subst z;rw[q] at mu;exact nm mu
 refine⟨λb u q n _ _=>k b u (hb b n) q,λb u q n _ _=>⟨u.slots,k b u (hb b n) q⟩,λb u q n _=>by rw[aB (hx b n)];exact n,λb u q _=>?_,
  λb xs q=>by rw[aB (hm b _ q λz=>z)];exact q,λb u xs q=>by rw[aB (hm b _ q λz=>z)];exact q,λb ps q=>⟨#[],by rw[aB (hm b _ q λz=>z),q];simp⟩⟩
 by_cases hbe:b=e
 . subst hbe;exact heo
 . exact⟨u,k b u hbe q⟩
end
noncomputable def RM(h:Heap)(H:Hp):List Addr:=(Vn h.objs.size).filter λa=>(H a).isSome
noncomputable def t8(h:Heap)(H:Hp):Heap:=PySem.W.hideAll h (RM h H)
theorem Ah(h:Heap)(H:Hp):(t8 h H).objs.size=h.objs.size:=PySem.W.hideAll_size _ _
theorem B0{h:Heap}{H:Hp}{b:Addr}{o:Obj}(e:h.get? b=some o)(n:H b=none):(t8 h H).get? b=some o :=
 PySem.W.hideAll_get _ e λhm=>by
  have q:(H b).isSome=true:=(VL.mp hm).2;rw[n] at q;simp at q
theorem G6{h:Heap}{H:Hp}{b:Addr}{o:Obj}(e:(t8 h H).get? b=some o):h.get? b=some o/\H b=none:=by
 have e':h.get? b=some o:=PySem.W.of_hideAll (RM h H) e;refine⟨e',?_⟩;cases q:H b with
 | none=>rfl
 | some x =>
  have hm:b∈RM h H:=VL.mpr ⟨Wm.mpr (Ux e'),by simp[q]⟩
  have z:(t8 h H).get? b=none:=PySem.W.hideAll_none (RM h H) hm
  rw[z] at e;cases e
noncomputable def Fj(g h:Heap)(L:Addr):List (Addr × Obj):=(Vn h.objs.size).filterMap λa=>if a=L\/(g.get? a).isSome=true then none else(h.get? a).map λo=>(a,o)
noncomputable def rest(g h:Heap)(L d:Addr):List (Addr × Obj):=(Fj g h L).filter λp=>decide (p.1≠d)
structure Mod(K:Ud)(mg:Str->Option Value)(base:Heap):Prop where
 SU:K.In base
 glob:base.Ns UI mg
 blt: ∃ mb,base.Ns builtinsNs mb/\ ∀ x:Str,x≠ "__name__" ->mb x=VA x
 nolimit:base.NoLimit
structure Cx where
 prog:UN
 w:World
 K:Ud
 mg:Str->Option Value
 base:Heap
 A:U6
 N:List Str
 s₀ :Uj
 H₀ :Hp
 env:Env
 outer:List Env
 stack:List Env
 ex:List Addr
 fn:Str->Bool
 calm:Bool
 pn:List (Addr × Obj)
 xe:Value->Uj->Prop
noncomputable def Bv(l:List Env):List Addr:=l.filterMap (·.frame)
abbrev Cx.fs(X:Cx):List Addr:=Bv X.outer
noncomputable def N7(sc:Scope)(x:Str):Prop:=sc.names.lookup x=some .local\/sc.names.lookup x=some .cell\/sc.names.lookup x=some .free
noncomputable def Loc(sc:Scope)(x:Str):Prop:=sc.names.lookup x=some .local\/sc.names.lookup x=some .cell
noncomputable def Look(env:Env)(h:Heap)(m:Str->Option Value)(x:Str)(u:Value):Prop :=
 (env.kindOf x=some .local/\m x=some u)\/((env.kindOf x=some .cell\/env.kindOf x=some .free)/\ ∃ c,env.cells.lookup x=some c/\h.IsCell c (some u))
structure Cx.Ok(X:Cx):Prop where
 mod:Mod X.K X.mg X.base
 kind:X.env.scope.kind= .function
 glob:X.env.globals=UI
 blt:X.env.builtins=builtinsNs
 above:X.s₀.heap.objs.size<=X.env.locals
 inj: ∀ x y c,X.env.cells.lookup x=some c->X.env.cells.lookup y=some c->x=y
 has: ∀ x,(X.env.kindOf x=some .cell\/X.env.kindOf x=some .free)-> ∃ c,X.env.cells.lookup x=some c
 N5: ∀ x c,X.fn x=true->X.env.cells.lookup x=some c->X.s₀.heap.objs.size<=c
 hd:X.calm=true->X.A.handled=none
 frames:X.A.frames=some X.stack
 OS:X.stack=X.outer\/(X.stack=X.env::X.outer/\X.env.frame=some X.env.locals)
 SY: ∀ b∈X.ex,b≠X.env.locals/\ ∀ x c,X.env.cells.lookup x=some c->c≠b
 bs: ∀ b o,X.base.get? b=some o->X.s₀.heap.get? b=some o/\X.H₀ b=none
 EJ:X.base.objs.size<=X.s₀.heap.objs.size
 Ao: ∀ b o,X.base.get? b=some o->b ∉ X.ex
 Cb: ∀ b∈X.ex,b ∉ X.fs
 mT:X.s₀.heap.FunFrames X.base X.outer
 IL: ∀ b∈X.fs,X.H₀ b=none
structure Inv(X:Cx)(pins:List (Addr × Obj))(σ :List (Option V))(H:Hp)(s:Uj):Prop where
 ok:X.Ok
 os:s.os=X.s₀.os
 bare:YX s.gens
 base:Un X.fs X.ex X.H₀ H X.s₀.heap s.heap
 loc: ∃ m,s.heap.Ns X.env.locals m/\ ∀(i:Nat)(x:Str)(v:V),X.N[i]?=some x-> σ[i]?=some (some v)->N7 X.env.scope x-> ∃ u,RelV v u/\Look X.env s.heap m x u
 cell: ∀ x c,X.env.cells.lookup x=some c-> ∃ v,s.heap.IsCell c v
 free:H X.env.locals=none
 jw: ∀ x c,X.env.cells.lookup x=some c->H c=none
 pin: ∀ p∈X.pn++pins,s.heap.get? p.1=some p.2/\H p.1=none/\p.1≠X.env.locals/\p.1 ∉ X.fs/\ ∀ v,p.2.data≠ .cell v
 bD:ka X.prog X.w H s.heap
 len: σ.length=X.N.length
section
variable{X:Cx}{pins:List (Addr × Obj)}{σ :List (Option V)}{H H':Hp}{s:Uj}{h':Heap}
theorem Cx.Ok.Sn(ok:X.Ok){b:Addr}{o:Obj}(e:X.base.get? b=some o):b ∉ X.fs:=λhb=>by
 have:=(ok.mT.mem hb).1;rw[e] at this;cases this
theorem Inv.bs(I:Inv X pins σ H s): ∀ b o,X.base.get? b=some o->s.heap.get? b=some o/\H b=none:=λb o e =>
 ⟨I.base.keep b o (I.ok.bs b o e).1 (I.ok.bs b o e).2 (I.ok.Sn e) (I.ok.Ao b o e),I.base.free b o (I.ok.bs b o e).1 (I.ok.bs b o e).2 (I.ok.Ao b o e)⟩
theorem Inv.bk(I:Inv X pins σ H s): ∀ b o,X.base.get? b=some o->s.heap.get? b=some o:=λb o e=>(I.bs b o e).1
theorem Inv.mod(I:Inv X pins σ H s):Mod X.K X.mg X.base:=I.ok.mod
theorem Inv.my(I:Inv X pins σ H s):X.K.In s.heap:=I.ok.mod.SU.keeps I.bk
theorem Inv.nolimit(I:Inv X pins σ H s):s.heap.NoLimit:=I.ok.mod.nolimit.keeps I.bk
theorem Inv.fr(I:Inv X pins σ H s): ∃ m,Fr X.base X.env.locals s.heap m :=
 let ⟨m,hn,_⟩:=I.loc
 ⟨m,hn,I.bk,UO I.ok.EJ I.ok.above⟩
theorem Inv.lt(I:Inv X pins σ H s):X.env.locals < s.heap.objs.size:=let ⟨_,hn,_⟩:=I.loc;hn.lt
theorem Inv.sz(I:Inv X pins σ H s):X.s₀.heap.objs.size<=s.heap.objs.size:=UO I.ok.above (WC I.lt)
theorem Inv.Oi(I:Inv X pins σ H s){a:Addr}(h:s.heap.objs.size<=a):a ∉ X.fs:=λhb=>by
 obtain⟨_,o,ho,_⟩:=I.ok.mT.mem hb;exact absurd (Ut (Ux ho) (UO I.sz h)) (Vb _)
theorem Inv.LB(I:Inv X pins σ H s): ∀ x c,X.env.cells.lookup x=some c->c≠X.env.locals:=λx c e z=>by
 obtain⟨v,o,ho,hd⟩:=I.cell x c e;obtain⟨m,⟨o',es,ep,ho',hd',_⟩,_⟩:=I.loc;rw[z,ho'] at ho;cases ho;rw[hd'] at hd;cases hd
theorem Inv.mT(I:Inv X pins σ H s):s.heap.FunFrames X.base X.outer:=by
 have all: ∀(l:List Env),(∀ b∈Bv l,b∈X.fs)->X.s₀.heap.FunFrames X.base l->s.heap.FunFrames X.base l:=by
  intro l
  induction l with
  | nil=>intro _ _;trivial
  | cons env r ih =>
   intro hs hl
   obtain⟨hk,⟨L,o,hf,hn,ho,hd⟩,hr⟩:=hl
   have hL:L∈X.fs:=hs L (by unfold Bv;rw[Yp,hf];exact Uv)
   obtain⟨sl,e⟩:=I.base.slot L o ho (I.ok.IL L hL) hL λz=>I.ok.Cb L z hL
   exact⟨hk,⟨L,_,hf,hn,e,hd⟩,ih (λb hb=>hs b (by unfold Bv;rw[Yp,hf];exact Uz _ hb)) hr⟩
 exact all X.outer (λ_ hb=>hb) I.ok.mT
theorem Inv.stack(I:Inv X pins σ H s):s.heap.FunFrames X.base X.stack:=by
 rcases I.ok.OS with e | ⟨e,hf⟩
 . rw[e];exact I.mT
 . rw[e];obtain⟨m,hn,_⟩:=I.loc;refine .cons (by rw[I.ok.kind];decide) hf hn ?_ I.mT;exact V6 (UO I.ok.EJ I.ok.above)
theorem Inv.mF(I:Inv X pins σ H s): ∀ b∈Bv X.stack,b∈X.env.locals::X.fs:=λb hb=>by
 rcases I.ok.OS with e | ⟨e,hf⟩
 . rw[e] at hb;exact Uz _ hb
 . rw[e] at hb;unfold Bv at hb;rw[Yp,hf] at hb;exact hb
theorem Inv.zr(I:Inv X pins σ H s): ∀ b∈Bv X.stack,H b=none:=λb hb=>by
 rcases Uy.mp (I.mF b hb) with e | hb
 . rw[e];exact I.free
 . obtain⟨_,o,ho,_⟩:=I.ok.mT.mem hb;exact I.base.free b o ho (I.ok.IL b hb) λz=>I.ok.Cb b z hb
theorem Inv.step{g':Array GenState}{t':Nat}{d':Drawn}{ch:List Addr}(I:Inv X pins σ H s)
  (hch: ∀ b∈ch,(b∈X.ex\/X.s₀.heap.objs.size<=b)/\b≠X.env.locals/\(∀ x c,X.env.cells.lookup x=some c->c≠b)/\ ∀ p∈X.pn++pins,p.1≠b)
  (keep: ∀ b o,b≠X.env.locals->b ∉ X.fs->b ∉ ch->s.heap.get? b=some o->H b=none->h'.get? b=some o)
  (slot: ∀ b o,b≠X.env.locals->b∈X.fs->b ∉ ch->s.heap.get? b=some o->H b=none-> ∃ sl,h'.get? b=some { o with slots:=sl }) (free: ∀ b o,b ∉ ch->s.heap.get? b=some o->H b=none->H' b=none)
  (there: ∀ b o,b ∉ ch->s.heap.get? b=some o-> ∃ o',h'.get? b=some o')
  (m6: ∀ b xs,H b=some (.tup xs)->H' b=some (.tup xs)) (l6: ∀ b o u,H b=some (.kI o u)->H' b=some (.kI o u)) (nX: ∀ b ps,H b=some (.tbl ps)-> ∃ more,H' b=some (.tbl (ps++more)))
  (ns: ∀ m,s.heap.Ns X.env.locals m->h'.Ns X.env.locals m) (bD:ka X.prog X.w H' h') (hg:YX g') :
  Inv X pins σ H' { s with heap:=h',gens:=g',drawn:=d',toks:=t' }:=by
 have neL: ∀ b o,X.s₀.heap.get? b=some o->b≠X.env.locals:=λb o e=>UK (Ut (Ux e) I.ok.above);have neC: ∀ b o,X.s₀.heap.get? b=some o->b ∉ X.ex->b ∉ ch:=λb o e hx hb=>by
  rcases(hch b hb).1 with z | z
  . exact hx z
  . exact absurd (Ut (Ux e) z) (Vb _)
 have cellK: ∀ x c,X.env.cells.lookup x=some c-> ∀ v,s.heap.IsCell c v->h'.IsCell c v:=λx c e v ⟨o,ho,hd⟩=>by
  have nch:c ∉ ch:=λz=>(hch c z).2.2.1 x c e rfl;by_cases hc:c∈X.fs
  . obtain⟨sl,q⟩:=slot c o (I.LB x c e) hc nch ho (I.jw x c e);exact⟨_,q,hd⟩
  . exact⟨o,keep c o (I.LB x c e) hc nch ho (I.jw x c e),hd⟩
 refine⟨I.ok,I.os,hg,⟨λb o e n hb hx=>?_,λb o e n hb hx=>?_,λb o e n hx=>?_,λb o e hx=>?_,λb xs e=>m6 b xs (I.base.m6 b xs e),λb o xs e=>l6 b o xs (I.base.l6 b o xs e),λb ps e=>?_⟩,?_,λx c e=>?_,?_,λx c e=>?_,λp hp=>?_,bD,I.len⟩
 . exact keep b o (neL b o e) hb (neC b o e hx) (I.base.keep b o e n hb hx) (I.base.free b o e n hx)
 . obtain⟨sl,e1⟩:=I.base.slot b o e n hb hx;obtain⟨sl',e2⟩:=slot b _ (neL b o e) hb (neC b o e hx) e1 (I.base.free b o e n hx);exact⟨sl',e2⟩
 . obtain⟨o',e1⟩:=I.base.there b o e hx;exact free b o' (neC b o e hx) e1 (I.base.free b o e n hx)
 . obtain⟨o',e1⟩:=I.base.there b o e hx;exact there b o' (neC b o e hx) e1
 . obtain⟨m1,e1⟩:=I.base.nX b ps e;obtain⟨m2,e2⟩:=nX b _ e1;exact⟨m1++m2,by rw[e2,aaL]⟩
 . obtain⟨m,hn,hl⟩:=I.loc;refine⟨m,ns m hn,λi x v e1 e2 e3=>?_⟩;obtain⟨u,r,l⟩:=hl i x v e1 e2 e3;refine⟨u,r,?_⟩;rcases l with l | ⟨k,c,e,z⟩
   . exact .inl l
   . exact .inr ⟨k,c,e,cellK x c e _ z⟩
 . obtain⟨v,z⟩:=I.cell x c e;exact⟨v,cellK x c e v z⟩
 . obtain⟨m,⟨o,_,_,ho,_⟩,_⟩:=I.loc;exact free _ o (λz=>(hch _ z).2.1 rfl) ho I.free
 . obtain⟨v,o,ho,hd⟩:=I.cell x c e;exact free c o (λz=>(hch c z).2.2.1 x c e rfl) ho (I.jw x c e)
 . obtain⟨e,n,ne,nf,d⟩:=I.pin p hp;have nch:p.1 ∉ ch:=λz=>(hch p.1 z).2.2.2 p hp rfl;exact⟨keep p.1 p.2 ne nf nch e n,free p.1 p.2 nch e n,ne,nf,d⟩
theorem Inv.un{t':Nat}(I:Inv X pins σ H s)(u:Un X.fs [] H H' s.heap h')(bD:ka X.prog X.w H' h'):Inv X pins σ H' { s with heap:=h',toks:=t' }:=by
 obtain⟨m,⟨o,es,ep,ho,r⟩,_⟩:=id I.loc;obtain⟨sl,hL⟩:=u.any ho I.free (by simp);exact I.step (g':=s.gens) (d':=s.drawn) (ch:=[]) (λ_ z=>nomatch z) (λb o _ hb _ e n=>u.keep b o e n hb (by simp)) (λb o _ hb _ e n=>u.slot b o e n hb (by simp)) (λb o _ e n=>u.free b o e n (by simp)) (λb o _ e=>u.there b o e (by simp)) u.m6 u.l6 u.nX (λm' hm=>by
  obtain⟨o',es',ep',ho',r'⟩:=hm;rw[ho] at ho';cases ho';exact⟨_,es',ep',hL,r'⟩) bD I.bare
theorem Inv.call{g':Array GenState}{t':Nat}{d':Drawn}{ch:List Addr}(I:Inv X pins σ H s)(u:Un (Bv X.stack) ch H H' s.heap h')(bD:ka X.prog X.w H' h')(hg:YX g')
  (hch: ∀ b∈ch,(b∈X.ex\/X.s₀.heap.objs.size<=b)/\b≠X.env.locals/\(∀ x c,X.env.cells.lookup x=some c->c≠b)/\ ∀ p∈X.pn++pins,p.1≠b) :
  Inv X pins σ H' { s with heap:=h',gens:=g',drawn:=d',toks:=t' }:=by
 obtain⟨m,⟨o,es,ep,ho,r⟩,_⟩:=id I.loc;obtain⟨sl,hL⟩:=u.any ho I.free λz=>(hch _ z).2.1 rfl;exact I.step (ch:=ch) hch (λb o hL hb hc e n=>u.keep b o e n (λz=>(Uy.mp (I.mF b z)).elim hL hb) hc) (λb o _ _ hc e n=>u.any e n hc) (λb o hc e n=>u.free b o e n hc) (λb o hc e=>u.there b o e hc) u.m6 u.l6 u.nX (λm' hm=>by
  obtain⟨o',es',ep',ho',r'⟩:=hm;rw[ho] at ho';cases ho';exact⟨_,es',ep',hL,r'⟩) bD hg
theorem Inv.turned{t':Nat}{it:Addr}(I:Inv X pins σ H s)(k: ∀ b o,b≠it->s.heap.get? b=some o->h'.get? b=some o)(hn:H it=none)(hL:it≠X.env.locals)
  (h1:it∈X.ex\/X.s₀.heap.objs.size<=it) (h2: ∀ x c,X.env.cells.lookup x=some c->c≠it) (h3: ∀ p∈X.pn++pins,p.1≠it):Inv X pins σ H { s with heap:=h',toks:=t' }:=by
 have nit: ∀ b u,H b=some u->b≠it:=λb u e z=>by rw[z,hn] at e;cases e
 refine I.step (g':=s.gens) (d':=s.drawn) (ch:=[it]) (λb hb=>?_) (λb o _ _ hc e _=>k b o (λz=>hc (by simp[z])) e) (λb o _ _ hc e _=>⟨o.slots,k b o (λz=>hc (by simp[z])) e⟩) (λ_ _ _ _ n=>n)
  (λb o hc e=>⟨o,k b o (λz=>hc (by simp[z])) e⟩) (λ_ _ e=>e) (λ_ _ _ e=>e) (λb ps e=>⟨#[],by rw[e];simp⟩) (λm hm=>?_) (λb u e=>?_) I.bare
 . have e:b=it:=by simpa using hb
   subst e;exact⟨h1,hL,h2,h3⟩
 . obtain⟨o,es,ep,ho,r⟩:=hm;exact⟨o,es,ep,k _ o (V3 hL) ho,r⟩
 . refine(I.bD b u e).uk (λc v hc q=>k c v ?_ q) (λ_ q=>q) λ_ _ q=>q;rcases hc with z | z
   . rw[z];exact nit b u e
   . exact nit c _ z
theorem Inv.tok(I:Inv X pins σ H s)(t:Nat):Inv X pins σ H { s with toks:=t }:=I.un (h':=s.heap) (t':=t) Un.refl I.bD
theorem Inv.kept{t':Nat}(I:Inv X pins σ H s)(k: ∀ b u,s.heap.get? b=some u->h'.get? b=some u):Inv X pins σ H { s with heap:=h',toks:=t' }:=I.un (Un.kept k) (I.bD.kept k)
theorem Inv.laid{a:Addr}{o:HO}{t':Nat}(I:Inv X pins σ H s)(k: ∀ b u,s.heap.get? b=some u->h'.get? b=some u)(hp:s.heap.objs.size<=a)(new:ba X.prog X.w (upd H a o) h' a o) :
  Inv X pins σ (upd H a o) { s with heap:=h',toks:=t' }:=I.un (Un.laid k hp (I.bD.fresh hp)) (I.bD.laid k hp new)
theorem Inv.write {x e:Addr} {o:HO} {t':Nat} (I:Inv X pins σ H s) (mu:P7 (H x)) (he:e=x∨H e=some (.own x)) (k: ∀ b u,b≠e->s.heap.get? b=some u->h'.get? b=some u) (heo: ∃ u,h'.get? e=some u)
  (new:ba X.prog X.w (upd H x o) h' x o):Inv X pins σ (upd H x o) { s with heap:=h',toks:=t' }:=I.un (Un.write mu he k heo) (I.bD.write mu he k heo new)
theorem Inv.weak {σ':List (Option V)} (I:Inv X pins σ H s) (hl: σ'.length= σ.length) (w: ∀ (i:Nat) v, σ'[i]?=some (some v)-> σ[i]?=some (some v)):Inv X pins σ' H s :=
 ⟨I.ok,I.os,I.bare,I.base,let ⟨m,hn,hl'⟩:=I.loc;⟨m,hn,λi x v e1 e2 e3=>hl' i x v e1 (w i v e2) e3⟩,I.cell,I.free,I.jw,I.pin,I.bD,hl.trans I.len⟩
theorem Inv.jH {pins':List (Addr × Obj)} (I:Inv X pins σ H s) (h: ∀ p∈pins',s.heap.get? p.1=some p.2∧H p.1=none∧p.1≠X.env.locals∧p.1 ∉ X.fs∧ ∀ v,p.2.data≠ .cell v):Inv X pins' σ H s :=
 ⟨I.ok,I.os,I.bare,I.base,I.loc,I.cell,I.free,I.jw,λp hp=>(Vl.mp hp).elim (λz=>I.pin p (Xc _ z)) (h p),I.bD,I.len⟩
theorem wc{N:List Str}(hN:N.Nodup){i j:Nat}{x:Str}(a:N[i]?=some x)(b:N[j]?=some x):i=j:=by
 obtain⟨h1,e1⟩:=Uh.mp a;obtain⟨h2,e2⟩:=Uh.mp b;exact(List.getElem_inj hN).mp (e1.trans e2.symm)
theorem rN{M:Model}{A:U6}{E:Value->Uj->Prop}{i:Nat}{x:Str}{v:V}{u:Value}{Q:Unit->Uj->Prop}(I:Inv X pins σ H s)(hN:X.N.Nodup)(hi:X.N[i]?=some x)(hx:Loc X.env.scope x)(r:RelV v u)
  (h: ∀ s',Inv X pins (σ.set i (some v)) H s'->(∃ a,ZC a s.heap s'.heap/\(a=X.env.locals\/X.env.cells.lookup x=some a))->Q () s') (hf:X.fn x=true\/X.env.scope.names.lookup x=some .local:=by first | exact .inl rfl | exact .inr rfl | assumption):wpAny M A (storeName X.env x u) Q E s:=by
 obtain⟨m,hn,hl⟩:=id I.loc;have hcls:(X.env.scope.kind == .class||(X.env.scope.kind == .module&&X.env.locals !=X.env.globals))=false:=by rw[I.ok.kind];rfl
 have hiσ :i < σ.length:=by rw[I.len];exact(Uh.mp hi).1
 have LB:=I.LB;have tracked: ∀{a:Addr}{h':Heap},(∃ o,s.heap.get? a=some o/\H a=none)->ZC a s.heap h'->ka X.prog X.w H h':=λ{a h'} ha hs b ob e=>by
  obtain⟨_,_,hfree⟩:=ha;refine(I.bD b ob e).uk (λc w' hc q=>(hs.2 c ?_).trans q) (λ_ q=>q) λ_ _ q=>q;rintro rfl;rcases hc with rfl | hc
  . rw[hfree] at e;cases e
  . rw[hfree] at hc;cases hc
 rcases hx with hk | hk
 . refine wpAny_storeName_local hk hn (λh' hn' hs=>?_) hcls;obtain⟨oL,_,_,hoL,_⟩:=id hn;refine h _ ⟨I.ok,I.os,I.bare,⟨λb o e n hb hx=>?_,λb o e n hb hx=>?_,I.base.free,λb o e hx=>?_,I.base.m6,I.base.l6,I.base.nX⟩,⟨_,hn',λj y v' e1 e2 e3=>?_⟩,λy c e=>?_,I.free,I.jw,λp hp=>?_,tracked ⟨oL,hoL,I.free⟩ hs,by simpa using I.len⟩ ⟨_,hs,.inl rfl⟩
   . exact(hs.2 b (UK (Ut (Ux e) I.ok.above))).trans (I.base.keep b o e n hb hx)
   . obtain⟨sl,e1⟩:=I.base.slot b o e n hb hx;exact⟨sl,(hs.2 b (UK (Ut (Ux e) I.ok.above))).trans e1⟩
   . obtain⟨o',e1⟩:=I.base.there b o e hx;exact⟨o',(hs.2 b (UK (Ut (Ux e) I.ok.above))).trans e1⟩
   . by_cases hj:j=i
     . subst hj;rw[hi] at e1;cases e1;rw[U1 hiσ] at e2;cases e2;exact⟨u,r,.inl ⟨hk,by simp⟩⟩
     . rw[Vm (V3 hj)] at e2;obtain⟨u',r',q⟩:=hl j y v' e1 e2 e3;refine⟨u',r',?_⟩;rcases q with⟨k,e⟩ | ⟨k,c,e,z⟩
       . refine .inl ⟨k,?_⟩;have:y≠x:=λe=>hj (wc hN e1 (e ▸ hi));simp[this,e]
       . exact .inr ⟨k,c,e,z.sameBut hs (LB y c e)⟩
   . obtain⟨w',z⟩:=I.cell y c e;exact⟨w',z.sameBut hs (LB y c e)⟩
   . obtain⟨e,n,ne,nf,d⟩:=I.pin p hp;exact⟨(hs.2 p.1 ne).trans e,n,ne,nf,d⟩
 . have hfn:X.fn x=true:=by
    rcases hf with z | z
    . exact z
    . rw[z] at hk;cases hk
   obtain⟨c,hc⟩:=I.ok.has x (.inl hk);obtain⟨w',z⟩:=I.cell x c hc;refine wpAny_storeName_cell I.ok.kind hk hc z (λh' hc' hs=>?_);obtain⟨oc,hoc,hocd⟩:=id z;refine h { s with heap:=h' } ⟨I.ok,I.os,I.bare,⟨λb o e n hb hx=>?_,λb o e n hb hx=>?_,I.base.free,λb o e hx=>?_,I.base.m6,I.base.l6,I.base.nX⟩,⟨m,hn.sameBut hs (V3 (LB x c hc)),λj y v' e1 e2 e3=>?_⟩,λy c' e=>?_,I.free,I.jw,λp hp=>?_,tracked ⟨oc,hoc,I.jw x c hc⟩ hs,by simpa using I.len⟩ ⟨c,hs,.inr hc⟩
   . exact(hs.2 b (UK (Ut (Ux e) (I.ok.N5 x c hfn hc)))).trans (I.base.keep b o e n hb hx)
   . obtain⟨sl,e1⟩:=I.base.slot b o e n hb hx;exact⟨sl,(hs.2 b (UK (Ut (Ux e) (I.ok.N5 x c hfn hc)))).trans e1⟩
   . obtain⟨o',e1⟩:=I.base.there b o e hx;exact⟨o',(hs.2 b (UK (Ut (Ux e) (I.ok.N5 x c hfn hc)))).trans e1⟩
   . by_cases hj:j=i
     . subst hj;rw[hi] at e1;cases e1;rw[U1 hiσ] at e2;cases e2;exact⟨u,r,.inr ⟨.inl hk,c,hc,hc'⟩⟩
     . rw[Vm (V3 hj)] at e2;obtain⟨u',r',q⟩:=hl j y v' e1 e2 e3;refine⟨u',r',?_⟩;rcases q with q | ⟨k,c',e,z'⟩
       . exact .inl q
       . refine .inr ⟨k,c',e,z'.sameBut hs ?_⟩;rintro rfl;exact hj (wc hN e1 (I.ok.inj _ _ _ e hc ▸ hi))
   . by_cases hcc:c'=c
     . subst hcc;exact⟨_,hc'⟩
     . obtain⟨w2,z2⟩:=I.cell y c' e;exact⟨w2,z2.sameBut hs hcc⟩
   . obtain⟨e,n,ne,nf,d⟩:=I.pin p hp;refine⟨(hs.2 p.1 ?_).trans e,n,ne,nf,d⟩;intro q;rw[q,hoc] at e;have q':oc=p.2:=Vg e;exact d w' (by rw[<- q'];exact hocd)
theorem uP{M:Model}{A:U6}{E:Value->Uj->Prop}{i:Nat}{x:Str}{v:V}{u:Value}{Q:Unit->Uj->Prop}(I:Inv X pins σ H s)(hN:X.N.Nodup)(hi:X.N[i]?=some x)(hx:Loc X.env.scope x)(r:RelV v u)
  (h: ∀ s',Inv X pins (σ.set i (some v)) H s'->Q () s') (hf:X.fn x=true\/X.env.scope.names.lookup x=some .local:=by first | exact .inl rfl | exact .inr rfl | assumption):wpAny M A (storeName X.env x u) Q E s :=
 rN I hN hi hx r (λs' I' _=>h s' I') hf
theorem Inv.Qp{s':Uj}{ch:List Addr}(I:Inv X pins σ H s)(ho:s'.os=s.os)(u:Un (Bv X.stack) ch H H' s.heap s'.heap)(bD:ka X.prog X.w H' s'.heap)(hg:YX s'.gens)
  (hch: ∀ b∈ch,(b∈X.ex\/X.s₀.heap.objs.size<=b)/\b≠X.env.locals/\(∀ x c,X.env.cells.lookup x=some c->c≠b)/\ ∀ p∈X.pn++pins,p.1≠b):Inv X pins σ H' s':=by
 obtain⟨h',g',d',t',o'⟩:=s';have e:o'=s.os:=ho;subst e;exact I.call (g':=g') (t':=t') (d':=d') u bD hg hch
end
abbrev XK:=Value->Option Addr->Hp->Prop
abbrev St:=List (Option V)
abbrev VK:=V->Hp->Prop
abbrev TE:=St->Hp->VK->Prop
abbrev TT:=St->Hp->(Bool->Hp->Prop)->Prop
abbrev TA:=St->Hp->(List V->Hp->Prop)->Prop
structure Ends where
 nx:St->Hp->Prop
 rt:VK
 bk:St->Hp->Prop:=λ_ _=>False
 ct:St->Hp->Prop:=λ_ _=>False
abbrev TS:=Ends->St->Hp->Prop
noncomputable def EP(X:Cx)(pins:List (Addr × Obj))(σ :St)(Q:VK)(u:Value)(s':Uj):Prop:= ∃ v H',Inv X pins σ H' s'/\RelV v u/\Q v H'
noncomputable def TP(X:Cx)(pins:List (Addr × Obj))(σ :St)(Q:Bool->Hp->Prop)(b:Bool)(s':Uj):Prop:= ∃ H',Inv X pins σ H' s'/\Q b H'
noncomputable def AP(X:Cx)(pins:List (Addr × Obj))(σ :St)(Q:List V->Hp->Prop)(us:List Value)(s':Uj):Prop:= ∃ vs H',Inv X pins σ H' s'/\Vals vs us/\Q vs H'
noncomputable def SP(X:Cx)(pins:List (Addr × Obj))(D:Ends)(f:Flow)(s':Uj):Prop :=
 match f with
 | .next=> ∃ σ' H',Inv X pins σ' H' s'/\D.nx σ' H'
 | .brk=> ∃ σ' H',Inv X pins σ' H' s'/\D.bk σ' H'
 | .cont=> ∃ σ' H',Inv X pins σ' H' s'/\D.ct σ' H'
 | .ret u=> ∃ v σ' H',Inv X pins σ' H' s'/\RelV v u/\D.rt v H'
noncomputable def PE(X:Cx)(e:Expr)(t:TE):Prop :=
 ∀(pins:List (Addr × Obj))(s:Uj)(σ :St)(H:Hp)(Q:VK),Inv X pins σ H s->t σ H Q->wpAny (model X.prog X.w) X.A (eval e X.env) (EP X pins σ Q) X.xe s
noncomputable def PT(X:Cx)(e:Expr)(t:TT):Prop :=
 ∀(pins:List (Addr × Obj))(s:Uj)(σ :St)(H:Hp)(Q:Bool->Hp->Prop),Inv X pins σ H s->t σ H Q->wpAny (model X.prog X.w) X.A (abe e X.env (eval e X.env)) (TP X pins σ Q) X.xe s
noncomputable def PW(X:Cx)(e:Expr)(t:TT):Prop :=
 ∀(whole:Sem Value)(pins:List (Addr × Obj))(s:Uj)(σ :St)(H:Hp)(Q:Bool->Hp->Prop),Inv X pins σ H s->t σ H Q->wpAny (model X.prog X.w) X.A (abe e X.env whole) (TP X pins σ Q) X.xe s
theorem PW.pt{X:Cx}{e:Expr}{t:TT}(h:PW X e t):PT X e t:=h _
noncomputable def PA(X:Cx)(es:List Expr)(t:TA):Prop :=
 ∀(pos:Pos)(pins:List (Addr × Obj))(s:Uj)(σ :St)(H:Hp)(Q:List V->Hp->Prop),Inv X pins σ H s->t σ H Q->wpAny (model X.prog X.w) X.A (spliced (XI pos (U7 es X.env))) (AP X pins σ Q) X.xe s
noncomputable def PS(X:Cx)(st:Stmt)(t:TS):Prop :=
 ∀(pins:List (Addr × Obj))(s:Uj)(σ :St)(H:Hp)(D:Ends),Inv X pins σ H s->t D σ H->wpAny (model X.prog X.w) X.A (exec st X.env) (SP X pins D) X.xe s
noncomputable def xw(X:Cx)(st:List Stmt)(t:TS):Prop :=
 ∀(pins:List (Addr × Obj))(s:Uj)(σ :St)(H:Hp)(D:Ends),Inv X pins σ H s->t D σ H->wpAny (model X.prog X.w) X.A (execs st X.env) (SP X pins D) X.xe s
theorem cL{α :Type}{t:Sem α}{Q Q': α ->Uj->Prop}{M:Model}{A:U6}{E:Value->Uj->Prop}{s:Uj}(h:wpAny M A t Q E s)(hQ: ∀ a s,Q a s->Q' a s):wpAny M A t Q' E s:=U8 h hQ λ_ _ x=>x
section
variable{X:Cx}
theorem bin{a b:Expr}{ta tb:TE}(ha:PE X a ta)(hb:PE X b tb){pins:List (Addr × Obj)}{s:Uj}{σ :St}{H:Hp}{R:V->V->Hp->Prop}(I:Inv X pins σ H s)(h:ta σ H λx H1=>tb σ H1 λy H2=>R x y H2)
  {α :Type} {Q: α ->Uj->Prop} {f:Value->Value->Sem α}
  (hf: ∀ v u s2 x y H2,Inv X pins σ H2 s2->RelV x v->RelV y u->R x y H2->wpAny (model X.prog X.w) X.A (f v u) Q X.xe s2) :
  wpAny (model X.prog X.w) X.A (eval a X.env) (λv s₁ =>wpAny (model X.prog X.w) X.A (eval b X.env) (λu s₂ =>wpAny (model X.prog X.w) X.A (f v u) Q X.xe s₂) X.xe s₁) X.xe s:=by
 refine cL (ha pins s σ H _ I h) λv s1 ⟨x,H1,I1,r1,q1⟩=>?_;refine cL (hb pins s1 σ H1 _ I1 q1) λu s2 ⟨y,H2,I2,r2,q2⟩=>?_;exact hf v u s2 x y H2 I2 r1 r2 q2
noncomputable def Ob (i:Nat):TE:=fun σ H Q=> ∃ v, σ[i]?=some (some v)∧Q v H
noncomputable def tC (v:V):TE:=λ_ H Q=>Q v H
theorem Kf {i:Nat} {x:Str} {pos:Pos} (hN:X.N[i]?=some x) (hv:N7 X.env.scope x) (hd:(x == ("__debug__" :Str))=false:=by decide) (hcd:(x == ("__classdict__" :Str))=false:=by decide):PE X (.Name x pos) (Ob i):=by
 intro pins s σ H Q I h;obtain⟨v,e,h⟩:=h;obtain⟨m,hn,hl⟩:=I.loc;obtain⟨u,r,l⟩:=hl i x v hN e hv;have fin:EP X pins σ Q u s:=⟨v,H,I,r,h⟩
 rcases l with⟨hk,hm⟩ | ⟨hk,c,hc,hcell⟩
 . exact wpAny_Name (wpAny_loadName_local I.ok.kind hk hn hm fin) hd
 . rcases hk with hk | hk
   . exact wpAny_Name (wpAny_loadName_cell I.ok.kind hk hc hcell fin) hd
   . exact wpAny_Name (wpAny_loadName_free I.ok.kind hk hc hcell fin hcd) hd
theorem KR{i j pos}:PE X (.Constant (.int i) j pos) (tC (.int i)):=λ_ _ _ H _ I h=>wpAny_Constant_int ⟨.int i,H,I.tok _,⟨_,rfl⟩,h⟩
theorem Q8{b j pos}:PE X (.Constant (.bool b) j pos) (tC (.bl b)):=λ_ _ _ H _ I h=>Constant_bool ⟨.bl b,H,I,rfl,h⟩
theorem K6{j pos}:PE X (.Constant .none j pos) (tC .non):=λ_ _ _ H _ I h=>aaD ⟨.non,H,I,rfl,h⟩
theorem LU{x j pos}:PE X (.Constant (.str x) j pos) (tC (.str x)):=λ_ _ _ H _ I h=>Calls.Constant_str ⟨.str x,H,I.tok _,⟨_,rfl⟩,h⟩
noncomputable def Gl(X:Cx)(x:Str):Prop:=X.env.kindOf x=some .globalImplicit
theorem y0{E:Value->Uj->Prop}{pins:List (Addr × Obj)}{s:Uj}{σ :St}{H:Hp}{x:Str}{u:Value}{pos:Pos}{Q:Value->Uj->Prop}(I:Inv X pins σ H s)(hg:Gl X x)(hm:X.mg x=some u)(h:Q u s)
  (hd:(x == ("__debug__" :Str))=false:=by decide):wpAny (model X.prog X.w) X.A (eval (.Name x pos) X.env) Q E s :=
 YD I.ok.kind hg (Calls.loadGlobal_global (by rw[I.ok.glob];exact I.mod.glob.keeps I.bk) hm h) hd
theorem kM{E:Value->Uj->Prop}{pins:List (Addr × Obj)}{s:Uj}{σ :St}{H:Hp}{x:Str}{u:Value}{pos:Pos}{Q:Value->Uj->Prop}(I:Inv X pins σ H s)(hg:Gl X x)(hm:X.mg x=none)(hv:VA x=some u)(h:Q u s)
  (hn:x≠ "__name__" :=by decide) (hd:(x == ("__debug__" :Str))=false:=by decide):wpAny (model X.prog X.w) X.A (eval (.Name x pos) X.env) Q E s:=by
 obtain⟨mb,h1,h2⟩:=I.mod.blt;exact YD I.ok.kind hg (Calls.loadGlobal_builtin (by rw[I.ok.glob];exact I.mod.glob.keeps I.bk) hm (by rw[I.ok.blt];exact h1.keeps I.bk) ((h2 x hn).trans hv) h) hd
theorem yK{x:Str}{v:V}{u:Value}{pos:Pos}(hg:Gl X x)(hm:X.mg x=some u)(r:RelV v u)(hd:(x == ("__debug__" :Str))=false:=by decide):PE X (.Name x pos) (tC v) :=
 λ_ _ _ H _ I h=>y0 I hg hm ⟨v,H,I,r,h⟩ hd
theorem Hv{x:Str}{v:V}{u:Value}{pos:Pos}(hg:Gl X x)(hm:X.mg x=none)(hv:VA x=some u)(r:RelV v u)(hn:x≠ "__name__" :=by decide)(hd:(x == ("__debug__" :Str))=false:=by decide):PE X (.Name x pos) (tC v) :=
 λ_ _ _ H _ I h=>kM I hg hm hv ⟨v,H,I,r,h⟩ hn hd
variable{a b:Expr}{ta tb:TE}{pos:Pos}
noncomputable def PC(X:Cx)(op:CmpOp)(a b:Expr)(t:TE):Prop :=
 ∀(pins:List (Addr × Obj))(s:Uj)(σ :St)(H:Hp)(Q:VK),Inv X pins σ H s->t σ H Q ->
  wpAny (model X.prog X.w) X.A (eval a X.env) (λv s₁ =>wpAny (model X.prog X.w) X.A (eval b X.env) (λu s₂ =>wpAny (model X.prog X.w) X.A (UY op v u) (EP X pins σ Q) X.xe s₂) X.xe s₁) X.xe s
theorem vJ(b:Expr){op:CmpOp}(h:op≠ .In)(h2:op≠ .NotIn):VH op b=false:=by
 have e1:(op == CmpOp.In)=false:=by cases op<;>first | rfl | exact absurd rfl h
 have e2:(op == CmpOp.NotIn)=false:=by cases op<;>first | rfl | exact absurd rfl h2
 cases b<;>simp[VH,e1,e2]
noncomputable def Lw(ta:TE):TE:=fun σ H Q=>ta σ H λx H1=>Q (.bl (decide (x= .non))) H1
noncomputable def Jk(ta:TE):TE:=fun σ H Q=>ta σ H λx H1=>Q (.bl (!decide (x= .non))) H1
theorem RelV.vb{x:V}{v:Value}(r:RelV x v):(v == Wl)=decide (x= .non):=by
 cases x with
 | non=>cases r;rfl
 | bl _=>cases r;rfl
 | int _=>obtain⟨t,rfl⟩:=r;rfl
 | str _=>obtain⟨t,rfl⟩:=r;rfl
 | byt _=>obtain⟨t,rfl⟩:=r;rfl
 | flt _=>obtain⟨t,rfl⟩:=r;rfl
 | ref _=>cases r;rfl
 | ty _=>cases r;rfl
theorem DH{j pos'}(ha:PE X a ta):PC X .Is a (.Constant .none j pos') (Lw ta):=by
 intro pins s σ H Q I h;refine cL (ha pins s σ H _ I h) λv s1 ⟨x,H1,I1,r1,q1⟩=>?_;exact aaD (is_none_gen ⟨.bl _,H1,I1,by rw[r1.vb];rfl,q1⟩)
theorem Hw{j pos'}(ha:PE X a ta):PC X .IsNot a (.Constant .none j pos') (Jk ta):=by
 intro pins s σ H Q I h;refine cL (ha pins s σ H _ I h) λv s1 ⟨x,H1,I1,r1,q1⟩=>?_;exact aaD (isnot_none_gen ⟨.bl _,H1,I1,by rw[r1.vb];rfl,q1⟩)
noncomputable def tB(t:TE):TT:=fun σ H Q=>t σ H λx H1=> ∃ c,x= .bl c/\Q c H1
theorem Nj{op:CmpOp}{t:TE}(h:PC X op a b t)(h1:VH op b=false:=by first | exact vJ _ (by decide) (by decide) | rfl):PE X (.Compare a [op] [b] pos) t:=λpins s σ H Q I hw=>wpAny_Compare1 (h pins s σ H Q I hw) h1
theorem DG{op:CmpOp}{t:TE}(h:PC X op a b t)(h1:VH op b=false:=by first | exact vJ _ (by decide) (by decide) | rfl):PT X (.Compare a [op] [b] pos) (tB t):=by
 intro pins s σ H Q I hw;refine Z0 (cL (h pins s σ H _ I hw) λv s1 h1=>cL h1 λu s2 h2=>cL h2 λc s3 ⟨x,H1,I1,r1,q1⟩=>?_) h1;obtain⟨d,rfl,q⟩:=q1;cases r1;exact V8 ⟨H1,I1,q⟩
theorem Mi{e:Expr}{t:TE}(h:PE X e t)(he: ∀ whole,abe e X.env whole=(do let v <- whole;abF e.pos;Yq [v] (truthy v)):=by intro _;rfl):PT X e (tB t):=by
 intro pins s σ H Q I hw;refine isTrue_plain (cL (h pins s σ H _ I hw) λv s1 ⟨x,H1,I1,r1,q1⟩=>?_) (he _);obtain⟨d,rfl,q⟩:=q1;cases r1;exact V8 ⟨H1,I1,q⟩
variable{tA tB':TT}{rest:List Expr}
noncomputable def QB(t u:TT):TT:=fun σ H Q=>t σ H λc H1=>if c=true then u σ H1 Q else Q false H1
noncomputable def Tf(t u:TT):TT:=fun σ H Q=>t σ H λc H1=>if c=true then Q true H1 else u σ H1 Q
noncomputable def Qv(t:TT):TT:=fun σ H Q=>t σ H λc H1=>Q (!c) H1
theorem pw_and1(ha:PT X a tA):PW X (.BoolOp .And [a] pos) tA:=by
 intro wh pins s σ H Q I h;refine isTrue_and (cL (ha pins s σ H Q I h) λc s1 e=>?_);cases c with
 | true=>exact isTrue_and_nil e
 | false=>exact e
theorem pw_or1(ha:PT X a tA):PW X (.BoolOp .Or [a] pos) tA:=by
 intro wh pins s σ H Q I h;refine isTrue_or (cL (ha pins s σ H Q I h) λc s1 e=>?_);cases c with
 | false=>exact isTrue_or_nil e
 | true=>exact e
theorem pw_and(ha:PT X a tA)(hb:PW X (.BoolOp .And (b::rest) pos) tB'):PW X (.BoolOp .And (a::b::rest) pos) (QB tA tB'):=by
 intro wh pins s σ H Q I h;refine isTrue_and (cL (ha pins s σ H _ I h) λc s1 ⟨H1,I1,q1⟩=>?_);cases c with
 | true=>exact hb wh pins s1 σ H1 Q I1 q1
 | false=>exact⟨H1,I1,q1⟩
theorem pw_or(ha:PT X a tA)(hb:PW X (.BoolOp .Or (b::rest) pos) tB'):PW X (.BoolOp .Or (a::b::rest) pos) (Tf tA tB'):=by
 intro wh pins s σ H Q I h;refine isTrue_or (cL (ha pins s σ H _ I h) λc s1 ⟨H1,I1,q1⟩=>?_);cases c with
 | true=>exact⟨H1,I1,q1⟩
 | false=>exact hb wh pins s1 σ H1 Q I1 q1
theorem M4(ha:PT X a tA):PT X (.UnaryOp .Not a pos) (Qv tA):=by
 intro pins s σ H Q I h;exact isTrue_not (ha pins s σ H (λc H1=>Q (!c) H1) I h)
noncomputable def IB(ta tb:TE):TE:=fun σ H Q=>ta σ H λx H1=> ∃ c,x= .bl c/\if c=true then tb σ H1 Q else Q (.bl false) H1
noncomputable def Qq(ta tb:TE):TE:=fun σ H Q=>ta σ H λx H1=> ∃ c,x= .bl c/\if c=true then Q (.bl true) H1 else tb σ H1 Q
noncomputable def Iz(ta:TE):TE:=fun σ H Q=>ta σ H λx H1=> ∃ c,x= .bl c/\Q (.bl (!c)) H1
theorem Jq{op}{t:TE}(h:PE X a t):PE X (.BoolOp op [a] pos) t:=λpins s σ H Q I hw=>BoolOp_one (h pins s σ H Q I hw)
theorem Kx(ha:PE X a ta)(hb:PE X (.BoolOp .And (b::rest) pos) tb):PE X (.BoolOp .And (a::b::rest) pos) (IB ta tb):=by
 intro pins s σ H Q I h;refine BoolOp_and (cL (ha pins s σ H _ I h) λv s1 ⟨x,H1,I1,r1,q1⟩=>?_);obtain⟨c,rfl,q1⟩:=q1;cases r1;refine V8 ?_;cases c with
 | true=>exact hb pins s1 σ H1 Q I1 q1
 | false=>exact⟨.bl false,H1,I1,rfl,q1⟩
theorem Rf(ha:PE X a ta)(hb:PE X (.BoolOp .Or (b::rest) pos) tb):PE X (.BoolOp .Or (a::b::rest) pos) (Qq ta tb):=by
 intro pins s σ H Q I h;refine BoolOp_or (cL (ha pins s σ H _ I h) λv s1 ⟨x,H1,I1,r1,q1⟩=>?_);obtain⟨c,rfl,q1⟩:=q1;cases r1;refine V8 ?_;cases c with
 | false=>exact hb pins s1 σ H1 Q I1 q1
 | true=>exact⟨.bl true,H1,I1,rfl,q1⟩
theorem L7(ha:PE X a ta):PE X (.UnaryOp .Not a pos) (Iz ta):=by
 intro pins s σ H Q I h;refine UnaryOp_ (cL (ha pins s σ H _ I h) λv s1 ⟨x,H1,I1,r1,q1⟩=>?_);obtain⟨c,rfl,q1⟩:=q1;cases r1;exact not_of (V8 ⟨.bl (!c),H1,I1,rfl,q1⟩)
noncomputable def TC(t:TT)(ta tb:TE):TE:=fun σ H Q=>t σ H λc H1=>if c=true then ta σ H1 Q else tb σ H1 Q
theorem C9{c:Expr}(hc:PT X c tA)(ha:PE X a ta)(hb:PE X b tb):PE X (.IfExp c a b pos) (TC tA ta tb):=by
 intro pins s σ H Q I h;refine wpAny_IfExp (cL (hc pins s σ H _ I h) λd s1 ⟨H1,I1,q1⟩=>?_);cases d with
 | true=>exact ha pins s1 σ H1 Q I1 q1
 | false=>exact hb pins s1 σ H1 Q I1 q1
end
noncomputable def iS(K:Ud)(H:Hp)(a:Addr)(xs:List V):Prop :=
 Rd H a (.lst xs) \/
  ∃(o:Obj)(aj:Array Value)(n:Nat),K.lookup a=some o/\o.cls= .type "list" /\o.dict=none/\o.data= .seq aj n/\aj.size<=sizeLine/\Vals xs aj.toList
noncomputable def fM(K:Ud)(H:Hp)(a:Addr)(xs:List V):Prop :=
 Rd H a (.tup xs) \/
  ∃(o:Obj)(aj:Array Value)(n:Nat),K.lookup a=some o/\o.cls= .type "tuple" /\o.data= .seq aj n/\aj.size<=sizeLine/\Vals xs aj.toList
noncomputable def RW:Value->Option V
 | .none=>some .non
 | .bool b=>some (.bl b)
 | .int i _=>some (.int i)
 | .str x _=>some (.str x)
 | .bytes b _=>some (.byt b)
 | .float b _=>some (.flt b)
 | .ref a=>some (.ref a)
 | .type n=>some (.ty n)
 | _=>none
theorem RelV.abs{x:V}{u:Value}(r:RelV x u):RW u=some x:=by
 cases x with
 | non=>cases r;rfl
 | bl _=>cases r;rfl
 | int _=>obtain⟨t,rfl⟩:=r;rfl
 | str _=>obtain⟨t,rfl⟩:=r;rfl
 | byt _=>obtain⟨t,rfl⟩:=r;rfl
 | flt _=>obtain⟨t,rfl⟩:=r;rfl
 | ref _=>cases r;rfl
 | ty _=>cases r;rfl
theorem RelV.inj{x y:V}{u:Value}(r:RelV x u)(q:RelV y u):x=y:=Vg (r.abs.symm.trans q.abs)
theorem Vals.inj: ∀{xs ys:List V}{us:List Value},Vals xs us->Vals ys us->xs=ys
 | _,_,_,.nil,.nil=>rfl
 | _,_,_,.cons r t,.cons r' t'=>by rw[r.inj r',Vals.inj t t']
section
variable{X:Cx}{pins:List (Addr × Obj)}{σ :St}{H:Hp}{s:Uj}{a:Addr}{xs ys:List V}
theorem iS.of{K:Ud}(h:H a=some (.lst xs)):iS K H a xs:= .inl (.inl h)
theorem fM.of{K:Ud}(h:H a=some (.tup xs)):fM K H a xs:= .inl (.inl h)
theorem Inv.list(I:Inv X pins σ H s)(h:iS X.K H a xs): ∃ aj:List Value,Vals xs aj/\PlainL s.heap a aj.toArray/\xs.length<=sizeLine:=by
 rcases h with h | ⟨o,aj,n,hk,hc,hd,hs,hz,r⟩
 . obtain⟨z,aj,n,r,e⟩:=h.ok I.bD;exact⟨aj,r,⟨_,n,e,rfl,rfl,rfl⟩,z⟩
 . refine⟨aj.toList,r,⟨o,n,I.my a o hk,hc,hd,by simpa using hs⟩,?_⟩;have e:=r.length;simp only[VX] at e;omega
theorem Inv.tuple(I:Inv X pins σ H s)(h:fM X.K H a xs): ∃ aj:List Value,Vals xs aj/\IsTup s.heap a aj.toArray/\xs.length<=sizeLine:=by
 rcases h with h | ⟨o,aj,n,hk,hc,hs,hz,r⟩
 . obtain⟨z,aj,r,p⟩:=h.ok I.bD;exact⟨aj,r,p.tup,z⟩
 . refine⟨aj.toList,r,⟨o,I.my a o hk,hc,n,by simpa using hs⟩,?_⟩;have e:=r.length;simp only[VX] at e;omega
theorem Inv.CK(I:Inv X pins σ H s)(h:iS X.K H a xs)(h':iS X.K H a ys):xs=ys:=by
 obtain⟨aj,r,⟨o,n,e,_,_,d⟩,_⟩:=I.list h;obtain⟨its',r',⟨o',n',e',_,_,d'⟩,_⟩:=I.list h';rw[e] at e';cases e';rw[d] at d';injection d' with d1 _;have:aj=its':=by simpa using congrArg abT d1
 subst this;exact r.inj r'
theorem Inv.nv(I:Inv X pins σ H s)(h:fM X.K H a xs)(h':fM X.K H a ys):xs=ys:=by
 obtain⟨aj,r,⟨o,e,_,n,d⟩,_⟩:=I.tuple h;obtain⟨its',r',⟨o',e',_,n',d'⟩,_⟩:=I.tuple h';rw[e] at e';cases e';rw[d] at d';injection d' with d1 _;have:aj=its':=by simpa using congrArg abT d1
 subst this;exact r.inj r'
end
abbrev Cx.nS(X:Cx)(E:Value->Uj->Prop):Cx:={ X with xe:=E }
abbrev Cx.qy(X:Cx):Cx:=X.nS λ_ _=>False
theorem Cx.Ok.nS{X:Cx}(ok:X.Ok)(E:Value->Uj->Prop):(X.nS E).Ok :=
 ⟨ok.mod,ok.kind,ok.glob,ok.blt,ok.above,ok.inj,ok.has,ok.N5,ok.hd,ok.frames,ok.OS,ok.SY,ok.bs,ok.EJ,ok.Ao,ok.Cb,ok.mT,ok.IL⟩
theorem Cx.Ok.gP{X:Cx}{E:Value->Uj->Prop}(ok:(X.nS E).Ok):X.Ok :=
 ⟨ok.mod,ok.kind,ok.glob,ok.blt,ok.above,ok.inj,ok.has,ok.N5,ok.hd,ok.frames,ok.OS,ok.SY,ok.bs,ok.EJ,ok.Ao,ok.Cb,ok.mT,ok.IL⟩
section
variable{X:Cx}{pins:List (Addr × Obj)}{σ :St}{H:Hp}{s:Uj}{E:Value->Uj->Prop}
theorem Inv.nS(I:Inv X pins σ H s)(E:Value->Uj->Prop):Inv (X.nS E) pins σ H s:=⟨I.ok.nS E,I.os,I.bare,I.base,I.loc,I.cell,I.free,I.jw,I.pin,I.bD,I.len⟩
theorem Inv.gP(I:Inv (X.nS E) pins σ H s):Inv X pins σ H s:=⟨I.ok.gP,I.os,I.bare,I.base,I.loc,I.cell,I.free,I.jw,I.pin,I.bD,I.len⟩
theorem SP.gP{D:Ends}{f:Flow}{s':Uj}(h:SP (X.nS E) pins D f s'):SP X pins D f s':=by
 cases f with
 | next=>obtain ⟨σ',H',I,q⟩:=h;exact ⟨σ',H',I.gP,q⟩
 | brk=>obtain ⟨σ',H',I,q⟩:=h;exact ⟨σ',H',I.gP,q⟩
 | cont=>obtain ⟨σ',H',I,q⟩:=h;exact ⟨σ',H',I.gP,q⟩
 | ret u=>obtain ⟨v, σ',H',I,r,q⟩:=h;exact ⟨v, σ',H',I.gP,r,q⟩
theorem PE.qy {e:Expr} {t:TE} (h:PE X.qy e t):PE X e t:=λpins s σ H Q I hw =>
 U8 (h pins s σ H Q (I.nS _) hw) (λ_ _ ⟨v,H',I',r,q⟩=>⟨v,H',I'.gP,r,q⟩) λ_ _ z=>VR z
theorem PT.qy {e:Expr} {t:TT} (h:PT X.qy e t):PT X e t:=λpins s σ H Q I hw =>
 U8 (h pins s σ H Q (I.nS _) hw) (λ_ _ ⟨H',I',q⟩=>⟨H',I'.gP,q⟩) λ_ _ z=>VR z
theorem xw.qy{st:List Stmt}{t:TS}(h:xw X.qy st t):xw X st t:=λpins s σ H D I hw =>
 U8 (h pins s σ H D (I.nS _) hw) (λ_ _ q=>q.gP) λ_ _ z=>VR z
end
section
variable{X:Cx}{st:Stmt}{rest:List Stmt}{t u:TS}{e:Expr}{te:TE}{pos:Pos}
noncomputable def DL:TS:=λD σ H=>D.nx σ H
noncomputable def Lv(t u:TS):TS:=λD σ H=>t { D with nx:=u D } σ H
theorem HP:xw X [] DL:=λ_ _ σ H _ I h=>Yi ⟨σ,H,I,h⟩
theorem DB(h1:PS X st t)(h2:xw X rest u):xw X (st::rest) (Lv t u):=by
 intro pins s σ H D I h;refine wpAny_execs_cons (cL (h1 pins s σ H { D with nx:=u D } I h) λf s1 q=>?_);cases f with
 | next =>
  obtain⟨σ',H',I',q⟩:=q
  exact h2 pins s1 σ' H' D I' q
 | ret v=>exact q
 | brk=>exact q
 | cont=>exact q
theorem E7(h1:PS X st t):xw X [st] t:=by
 intro pins s σ H D I h;refine wpAny_execs_cons (cL (h1 pins s σ H D I h) λf s1 q=>?_);cases f with
 | next=>exact Yi q
 | ret v=>exact q
 | brk=>exact q
 | cont=>exact q
theorem Inv.quiet{pins:List (Addr × Obj)}{σ :St}{H:Hp}{s:Uj}(I:Inv X pins σ H s):interactive X.env=false:=by simp[interactive,I.ok.kind]
noncomputable def Iw(te:TE):TS:=λD σ H=>te σ H λ_ H1=>D.nx σ H1
theorem HR(he:PE X e te)(hs:W4 e none pos.line X.env=pure false:=by rfl):PS X (.Expr e pos) (Iw te):=by
 intro pins s σ H D I h;exact wpAny_Expr_any (cL (he pins s σ H _ I h) λv s1 ⟨x,H1,I1,r1,q1⟩=>⟨σ,H1,I1,q1⟩) I.quiet hs
noncomputable def Of (te:TE):TS:=λD σ H=>te σ H D.rt
theorem Lh (he:PE X e te):PS X (.Return (some e) pos) (Of te):=by
 intro pins s σ H D I h;exact wpAny_Return_some (cL (he pins s σ H _ I h) λv s1 ⟨x,H1,I1,r1,q1⟩=>⟨x, σ,H1,I1,r1,q1⟩)
noncomputable def Qr (c:TT) (t u:TS):TS:=λD σ H=>c σ H λb H1=>if b=true then t D σ H1 else u D σ H1
theorem Qo {c:Expr} {a b:List Stmt} {tc:TT} (hc:PT X c tc) (ha:xw X a t) (hb:xw X b u):PS X (.If c a b pos) (Qr tc t u):=by
 intro pins s σ H D I h;refine wpAny_If (cL (hc pins s σ H _ I h) λd s1 ⟨H1,I1,q1⟩=>?_);cases d with
 | true=>exact ha pins s1 σ H1 D I1 q1
 | false=>exact hb pins s1 σ H1 D I1 q1
noncomputable def JL:TS:=λ_ _ _=>False
theorem Ee:PS X st JL:=λ_ _ _ _ _ _ h=>h.elim
end
abbrev TG:=V->St->Hp->(St->Hp->Prop)->Prop
abbrev uA:=List V->St->Hp->(St->Hp->Prop)->Prop
noncomputable def PG(X:Cx)(target:Expr)(t:TG):Prop :=
 ∀(pins:List (Addr × Obj))(s:Uj)(σ :St)(H:Hp)(v:V)(u:Value)(Q:St->Hp->Prop),Inv X pins σ H s->RelV v u->t v σ H Q ->
  wpAny (model X.prog X.w) X.A (XJ target X.env u) (λ_ s'=> ∃ σ' H',Inv X pins σ' H' s'/\Q σ' H') X.xe s
noncomputable def O0(X:Cx)(ts:List Expr)(t:uA):Prop :=
 ∀(pins:List (Addr × Obj))(s:Uj)(σ :St)(H:Hp)(vs:List V)(us:List Value)(Q:St->Hp->Prop),Inv X pins σ H s->Vals vs us->t vs σ H Q ->
  wpAny (model X.prog X.w) X.A (assignInOrder ((Vv ts X.env).map (·.2)) us) (λ_ s'=> ∃ σ' H',Inv X pins σ' H' s'/\Q σ' H') X.xe s
abbrev C8:=V->V->V->Hp->(Hp->Prop)->Prop
noncomputable def qY(X:Cx)(t:C8):Prop :=
 ∀(pins:List (Addr × Obj))(s:Uj)(σ :St)(H:Hp)(o i v:V)(ov iv u:Value)(Q:Hp->Prop),Inv X pins σ H s->RelV o ov->RelV i iv->RelV v u->t o i v H Q ->
  wpAny (model X.prog X.w) X.A (setItem ov iv u) (λ_ s'=> ∃ H',Inv X pins σ H' s'/\Q H') X.xe s
section
variable{X:Cx}{pos:Pos}
noncomputable def eA(i:Nat):TG:=λv σ H Q=>Q (σ.set i (some v)) H
theorem HB{i:Nat}{x:Str}(hN:X.N.Nodup)(hi:X.N[i]?=some x)(hx:Loc X.env.scope x)(hf:X.fn x=true\/X.env.scope.names.lookup x=some .local:=by first | exact .inl rfl | exact .inr rfl | assumption):PG X (.Name x pos) (eA i):=by
 intro pins s σ H v u Q I r h;exact wpAny_assign_Name (uP I hN hi hx r (λs' I'=>⟨_,H,I',h⟩) hf)
noncomputable def yt:uA:=λvs σ H Q=>vs=[]/\Q σ H
noncomputable def jB(t:TG)(u:uA):uA:=λvs σ H Q=> ∃ v r,vs=v::r/\t v σ H fun σ' H'=>u r σ' H' Q
theorem Hf:O0 X [] yt:=by
 intro pins s σ H vs us Q I r h;obtain⟨e,h⟩:=h;subst e;cases r;exact assignInOrder_nil ⟨σ,H,I,h⟩
theorem B8{e:Expr}{es:List Expr}{t:TG}{u:uA}(h1:PG X e t)(h2:O0 X es u)
  (hs:(Vv (e::es) X.env).map (·.2)=XJ e X.env::(Vv es X.env).map (·.2):=by rfl):O0 X (e::es) (jB t u):=by
 intro pins s σ H vs us Q I r h;obtain⟨v,vr,e1,h⟩:=h;subst e1;cases r with
 | cons r rr =>
  rw[hs]
  refine assignInOrder_cons (cL (h1 pins s σ H _ _ _ I r h) λ_ s1 ⟨σ1,H1,I1,q1⟩=>?_)
  exact h2 pins s1 σ1 H1 _ _ Q I1 rr q1
noncomputable def wb(K:Ud)(n:Nat)(t:uA):TG:=λv σ H Q=> ∃ a xs,v= .ref a/\fM K H a xs/\xs.length=n/\t xs σ H Q
theorem LW{es:List Expr}{k:Nat}{t:uA}{n:Nat}(hc:X.calm=true)(h:O0 X es t)
  (hn:(Vv es X.env).length=n:=by rfl) (hst:(Vv es X.env).findIdx? (·.1)=none:=by rfl):PG X (.Tuple es k pos) (wb X.K n t):=by
 intro pins s σ H v u Q I r hw;obtain⟨a,xs,e1,hq,hl,hw⟩:=hw;subst e1;cases r;obtain⟨aj,rv,ht,hz⟩:=I.tuple hq;refine assign_Tuple_tuple (I.ok.hd hc) ht (by simp[hn,<- hl,rv.length]) hst λh' hx=>?_;have I1:Inv X pins σ H { s with heap:=h' }:=I.kept (t':=s.toks) λb o e=>hx b o (UK (Ux e)) e;exact h pins _ σ H xs _ Q I1 (by simpa using rv) hw
noncomputable def SQ(to ti:TE)(t:C8):TG:=λv σ H Q=>to σ H λo H1=>ti σ H1 λi H2=>t o i v H2 λH3=>Q σ H3
theorem Ma{o i:Expr}{to ti:TE}{t:C8}(ho:PE X o to)(hi:PE X i ti)(hs:qY X t)
  (ha: ∀ v,XJ (.Subscript o i pos) X.env v=(do
   let ov <- Yq [v] (eval o X.env)
   let iv <- Yq [v,ov] (eval i X.env)
   abF pos
   Yq [v,ov,iv] (setItem ov iv v)
   release [v,ov,iv] []):=by intro _;rfl):PG X (.Subscript o i pos) (SQ to ti t):=by
 intro pins s σ H v u Q I r h;rw[ha];refine Ue (VP (cL (ho pins s σ H _ I h) λov s1 ⟨x,H1,I1,r1,q1⟩=>?_));refine Ue (VP (cL (hi pins s1 σ H1 _ I1 q1) λiv s2 ⟨y,H2,I2,r2,q2⟩=>?_));refine Ue (aaE (Ue (VP (cL (hs pins s2 σ H2 x y v ov iv u _ I2 r1 r2 r q2) λ_ s3 ⟨H3,I3,q3⟩=>?_))));exact wpAny_release ⟨σ,H3,I3,q3⟩
noncomputable def EY(te:TE)(g:TG):TS:=λD σ H=>te σ H λx H1=>g x σ H1 D.nx
theorem Ny{tg e:Expr}{te:TE}{g:TG}(he:PE X e te)(hg:PG X tg g)(hs:Y8 [tg] e pos.line X.env=pure false:=by rfl)(hw:Y9 [tg] e X.env=pure none:=by rfl)
  (h1:(Vv [tg] X.env).map (·.2)=[XJ tg X.env]:=by rfl):PS X (.Assign [tg] e pos) (EY te g):=by
 intro pins s σ H D I h;refine wpAny_Assign_stores (cL (he pins s σ H _ I h) λv s1 ⟨x,H1,I1,r1,q1⟩=>?_) hs hw;rw[h1];exact cL (hg pins s1 σ H1 x v _ I1 r1 q1) λ_ s2 q=>q
theorem JY{i:Nat}{x:Str}{e:Expr}{te:TE}{pos':Pos}(hN:X.N.Nodup)(hi:X.N[i]?=some x)(hx:Loc X.env.scope x)(he:PE X e te)(hs:W4 e (some (.Name x pos')) pos.line X.env=pure false:=by rfl)(hf:X.fn x=true\/X.env.scope.names.lookup x=some .local:=by first | exact .inl rfl | exact .inr rfl | assumption) :
  PS X (.Assign [.Name x pos'] e pos) (EY te (eA i)):=by
 intro pins s σ H D I h;refine wpAny_Assign_Name (cL (he pins s σ H _ I h) λv s1 ⟨y,H1,I1,r1,q1⟩=>?_) hs;exact uP I1 hN hi hx r1 (λs2 I2=>⟨_,H1,I2,q1⟩) hf
end
section
variable{X:Cx}{pos:Pos}
noncomputable def Di(c:TT)(tb:TS):TS:=λD σ H=> ∃ W:Nat->St->Hp->Prop,(∃ m,W m σ H)/\ ∀ m σ H,W m σ H ->
 c σ H λb H1=>if b=true then ∃ N:St->Hp->Prop,(∀ σ' H',N σ' H'-> ∃ m',m' < m/\W m' σ' H')/\tb { D with nx:=N,ct:=N,bk:=D.nx } σ H1 else D.nx σ H1
theorem BP{c:Expr}{body:List Stmt}{tc:TT}{tb:TS}(hp:Zm (model X.prog X.w) X.A X.env X.xe)(hc:PT X c tc)(hb:xw X body tb):PS X (.While c body [] pos) (Di tc tb):=by
 intro pins s σ H D I h;obtain⟨W,⟨m0,w0⟩,turn⟩:=h;refine wpAny_While (codeAny_whileLoop (λn s'=> ∃ σ' H',Inv X pins σ' H' s'/\W n σ' H') ?_ m0 ⟨σ,H,I,w0⟩);rintro n s1 ⟨σ1,H1,I1,w1⟩;refine Wy hp (cL (hc pins s1 σ1 H1 _ I1 (turn n σ1 H1 w1)) λb s2 ⟨H2,I2,q2⟩=>?_);cases b with
 | true =>
  obtain⟨N,hN,q2⟩:=q2
  rw[if_pos rfl]
  refine Wy hp (cL (hb pins s2 σ1 H2 _ I2 q2) λf s3 q3=>?_)
  cases f with
  | next =>
   obtain ⟨σ3,H3,I3,n3⟩:=q3
   obtain ⟨m',hm,w3⟩:=hN σ3 H3 n3
   exact ⟨m',hm, σ3,H3,I3,w3⟩
  | cont =>
   obtain ⟨σ3,H3,I3,n3⟩:=q3
   obtain ⟨m',hm,w3⟩:=hN σ3 H3 n3
   exact ⟨m',hm, σ3,H3,I3,w3⟩
  | brk=>exact q3
  | ret v=>exact q3
 | false =>
  rw[if_neg UG]
  exact Yi ⟨σ1,H2,I2,q2⟩
end
structure It where
 go:Nat->Hp->Prop
 Ja:Nat->Hp->V->Hp->Prop
 stop:Nat->Hp->Prop
noncomputable def nW(X:Cx)(pins:List (Addr × Obj))(H:Hp)(b:Addr):Prop :=
 H b=none/\b≠X.env.locals/\b ∉ X.fs/\(b∈X.ex\/X.s₀.heap.objs.size<=b)/\(∀ x c,X.env.cells.lookup x=some c->c≠b)/\ ∀ p∈X.pn++pins,p.1≠b
theorem Inv.Nn{X:Cx}{pins:List (Addr × Obj)}{σ :St}{H H':Hp}{s:Uj}{b:Addr}(I:Inv X pins σ H s)(hb:s.heap.objs.size<=b)(hn:H' b=none):nW X pins H' b:=by
 refine⟨hn,Xg (Ut I.lt hb),I.Oi hb,.inr (UO I.sz hb),λx c e z=>?_,λp hp z=>?_⟩
 . obtain⟨v,q⟩:=I.cell x c e;exact absurd (Ut q.lt (by rw[z];exact hb)) (Vb _)
 . exact absurd (Ut (Ux (I.pin p hp).1) (by rw[z];exact hb)) (Vb _)
structure Turn(P:UN)(w:World)(K:Ud)(tg:Expr)(J:It)(fp:List Addr)(it:Addr)(tn:Nat->Heap->Prop):Prop where
 mem:it∈fp
 obj: ∀ i h,tn i h-> ∀ b∈fp,∃ o,h.get? b=some o/\ ∀ v,o.data≠ .cell v
 keep: ∀ i h h',tn i h->(∀ b∈fp,∀ o,h.get? b=some o->h'.get? b=some o)->tn i h'
 item: ∀(X:Cx),X.prog=P->X.w=w->X.K=K->X.calm=true-> ∀(i:Nat)(pins:List (Addr × Obj))(s:Uj)(σ :St)(H:Hp)(E:Value->Uj->Prop),Inv X pins σ H s->(∀ b∈fp,nW X pins H b)->tn i s.heap->J.go i H ->
  wpAny (model P w) X.A (abf (.ref it)) (λr s1=> ∃ u,r=some u /\
   wpAny (model P w) X.A (Yj tg (.ref it) u) (λ_ s2=> ∃ x H',Inv X pins σ H' s2/\RelV x u/\J.Ja i H x H'/\tn (i+1) s2.heap/\ ∀ b∈fp,H' b=none) E s1) E s
 done: ∀(X:Cx),X.prog=P->X.w=w->X.K=K->X.calm=true-> ∀(i:Nat)(pins:List (Addr × Obj))(s:Uj)(σ :St)(H:Hp)(E:Value->Uj->Prop),Inv X pins σ H s->(∀ b∈fp,nW X pins H b)->tn i s.heap->J.stop i H ->
  wpAny (model P w) X.A (abf (.ref it)) (λr s1=>r=none/\Inv X pins σ H s1) E s
 self: ∀(A:U6)(i:Nat)(s:Uj)(Q:Value->Uj->Prop)(E:Value->Uj->Prop),tn i s.heap->Q (.ref it) s->wpAny (model P w) A (abg (.ref it)) Q E s
abbrev TI:=St->Hp->(It->Hp->Prop)->Prop
noncomputable def Ow(X:Cx)(pins:List (Addr × Obj))(σ :St)(tg:Expr)(R:It->Hp->Prop)(itv:Value)(s2:Uj):Prop :=
 ∃(it:Addr)(fp:List Addr)(tn:Nat->Heap->Prop)(J:It)(H':Hp),itv= .ref it/\Inv X pins σ H' s2/\Turn X.prog X.w X.K tg J fp it tn/\tn 0 s2.heap/\(∀ b∈fp,nW X pins H' b)/\R J H'
noncomputable def PI(X:Cx)(tg iter:Expr)(wi:TI):Prop :=
 ∀ (pins:List (Addr × Obj)) (s:Uj) (σ :St) (H:Hp) (R:It->Hp->Prop),Inv X pins σ H s->wi σ H R ->
  wpAny (model X.prog X.w) X.A (eval iter X.env) (λv s1=>wpAny (model X.prog X.w) X.A (abg v) (Ow X pins σ tg R) X.xe s1) X.xe s
theorem y6 {M : Model} {A : U6} {E : Value -> Uj -> Prop} {s : Uj} {tg : Expr} {it : Addr} {u : Value} {o : Obj} {n : String} {vs : Array Value} {Q : Unit -> Uj -> Prop} (ho : s.heap.get? it = some o) (hc : o.cls = .type n) (hd : o.data = .fields vs)
    (hn : ["enumerate", "zip", "dict_itemiterator", "dict_reverseitemiterator", "odict_iterator", "itertools.zip_longest", "itertools.pairwise"].contains n = false) (hQ : Q () s) : wpAny M A (Yj tg (.ref it) u) Q E s := by
  unfold Yj;cases tg <;> first
    | exact Us hQ
    | (cases u <;> first
        | exact Us hQ
        | (refine Ue (WI ho ?_)
           rw [hc, hd]
           show wpAny M A (if (["enumerate", "zip", "dict_itemiterator", "dict_reverseitemiterator", "odict_iterator", "itertools.zip_longest", "itertools.pairwise"].contains n && vs[0]? == some (abh _)) = true then _ else _) Q E s
           rw [if_neg (by intro h; rw [hn, aac] at h; cases h)]
           exact Us hQ))
noncomputable def Se (K:Ud) (a:Addr):It :=
 ⟨λi H=> ∃ xs x,iS K H a xs∧xs[i]?=some x,λi H x H'=>H'=H∧ ∀ xs,iS K H a xs->xs[i]?=some x,λi H=> ∃ xs,iS K H a xs∧xs.length<=i⟩
noncomputable def CU(K:Ud)(a:Addr):It :=
 ⟨λi H=> ∃ xs x,fM K H a xs/\xs[i]?=some x,λi H x H'=>H'=H/\ ∀ xs,fM K H a xs->xs[i]?=some x,λi H=> ∃ xs,fM K H a xs/\xs.length<=i⟩
noncomputable def RC(lo:Int)(n:Nat):It:=⟨λi _=>i < n,λi H x H'=>H'=H/\x= .int (lo+i),λi _=>n<=i⟩
theorem AD{P:UN}{w:World}{K:Ud}{tg:Expr}(a it:Addr):Turn P w K tg (Se K a) [it] it (λi h=>h.IsListIter it a i) where
 mem:=by simp
 obj:=λi h st b hb=>by
  have e:b=it:=by simpa using hb
  subst e;obtain⟨o,e,c,d⟩:=st;exact⟨o,e,λv z=>by rw[d] at z;cases z⟩
 keep:=λi h h' st k=>st.at λo e=>k it (by simp) o e
 item:=by
  intro X hP hw hK hc i pins s σ H E I hf st hg;subst hP hw hK;obtain⟨xs,x,hq,hx⟩:=hg;obtain⟨aj,rv,p,hz⟩:=I.list hq;obtain⟨u,hu,ru⟩:=rv.get hx;obtain⟨f0,f1,f2,f3,f4,f5⟩:=hf it (by simp);refine wpAny_pyNext_list_item st p.isList (x:=u) (by simpa using hu) λh' st' sb=>?_;have I1:Inv X pins σ H { s with heap:=h' }:=I.turned (t':=s.toks) (λb o hb e=>(sb.2 b hb).trans e) f0 f1 f3 f4 f5;obtain⟨o,e,c,d⟩:=id st';exact⟨u,rfl,y6 (s:={ s with heap:=h' }) e c d (by decide) ⟨x,H,I1,ru,⟨rfl,λys hy=>by rw[I.CK hy hq];exact hx⟩,st',λb hb=>(hf b hb).1⟩⟩
 done:=by
  intro X hP hw hK hc i pins s σ H E I hf st hg;subst hP hw hK;obtain⟨xs,hq,hx⟩:=hg;obtain⟨aj,rv,p,hz⟩:=I.list hq;obtain⟨f0,f1,f2,f3,f4,f5⟩:=hf it (by simp);have hl:=rv.length;exact wpAny_pyNext_list_end (I.ok.hd hc) st p.isList (by simp;omega) λh' eb=>⟨rfl,I.turned (t':=s.toks) (λb o hb e=>eb b o hb e) f0 f1 f3 f4 f5⟩
 self:=λ_ _ _ _ _ st h=>wpAny_pyIter_listiter st h
theorem xB{P:UN}{w:World}{K:Ud}{tg:Expr}(a it:Addr):Turn P w K tg (CU K a) [it] it (λi h=>h.IsTupleIter it a i) where
 mem:=by simp
 obj:=λi h st b hb=>by
  have e:b=it:=by simpa using hb
  subst e;obtain⟨o,e,c,d⟩:=st;exact⟨o,e,λv z=>by rw[d] at z;cases z⟩
 keep:=λi h h' st k=>st.at λo e=>k it (by simp) o e
 item:=by
  intro X hP hw hK hc i pins s σ H E I hf st hg;subst hP hw hK;obtain⟨xs,x,hq,hx⟩:=hg;obtain⟨aj,rv,p,hz⟩:=I.tuple hq;obtain⟨u,hu,ru⟩:=rv.get hx;obtain⟨f0,f1,f2,f3,f4,f5⟩:=hf it (by simp);refine wpAny_pyNext_tuple_item st (show s.heap.IsTuple a aj.toArray from p) (x:=u) (by simpa using hu) λh' st' sb=>?_;have I1:Inv X pins σ H { s with heap:=h' }:=I.turned (t':=s.toks) (λb o hb e=>(sb.2 b hb).trans e) f0 f1 f3 f4 f5;obtain⟨o,e,c,d⟩:=id st';exact⟨u,rfl,y6 (s:={ s with heap:=h' }) e c d (by decide) ⟨x,H,I1,ru,⟨rfl,λys hy=>by rw[I.nv hy hq];exact hx⟩,st',λb hb=>(hf b hb).1⟩⟩
 done:=by
  intro X hP hw hK hc i pins s σ H E I hf st hg;subst hP hw hK;obtain⟨xs,hq,hx⟩:=hg;obtain⟨aj,rv,p,hz⟩:=I.tuple hq;obtain⟨f0,f1,f2,f3,f4,f5⟩:=hf it (by simp);have hl:=rv.length;exact wpAny_pyNext_tuple_end (I.ok.hd hc) st (show s.heap.IsTuple a aj.toArray from p) (by simp;omega) λh' eb=>⟨rfl,I.turned (t':=s.toks) (λb o hb e=>eb b o hb e) f0 f1 f3 f4 f5⟩
 self:=λ_ _ _ _ _ st h=>wpAny_pyIter_tupleiter st h
theorem yu{P:UN}{w:World}{K:Ud}{tg:Expr}(it:Addr)(lo:Int)(n:Nat):Turn P w K tg (RC lo n) [it] it (λi h=>IsRangeIter h it (lo+(i:Nat)*1) ((n:Int) - (i:Nat)) 1) where
 mem:=by simp
 obj:=λi h st b hb=>by
  have e:b=it:=by simpa using hb
  subst e;exact⟨_,st,λv z=>by
   have z':Data.fields _=Data.cell v:=z;cases z'⟩
 keep:=λi h h' st k=>k it (by simp) _ st
 item:=by
  intro X hP hw hK hc i pins s σ H E I hf st hg;subst hP hw hK;obtain⟨f0,f1,f2,f3,f4,f5⟩:=hf it (by simp);have W:=Walks.range (prog:=X.prog) (w:=X.w) (I.ok.hd hc) it lo 1 n;refine W.item i s _ _ hg st λv h' tk hv st' kk=>?_;obtain⟨t,rfl⟩:=hv;have I1:Inv X pins σ H { s with heap:=h',toks:=tk }:=I.turned (λb o hb e=>kk b o (by simpa using hb) e) f0 f1 f3 f4 f5;refine⟨_,rfl,y6 (s:={ s with heap:=h',toks:=tk }) (n:= "range_iterator") st' rfl rfl (by decide) ⟨.int (lo+i),H,I1,⟨t,?_⟩,⟨rfl,rfl⟩,st',λb hb=>(hf b hb).1⟩⟩;rw[Int.mul_one]
 done:=by
  intro X hP hw hK hc i pins s σ H E I hf st hg;subst hP hw hK;obtain⟨f0,f1,f2,f3,f4,f5⟩:=hf it (by simp);exact wpAny_pyNext_range_end (I.ok.hd hc) st (by have:n<=i:=hg;omega) λh' eb=>⟨rfl,I.turned (t':=s.toks) (λb o hb e=>eb b o hb e) f0 f1 f3 f4 f5⟩
 self:=λ_ _ _ _ _ st h=>wpAny_pyIter_rangeiter st h
section
variable{X:Cx}{tg:Expr}
theorem D3{pins:List (Addr × Obj)}{σ :St}{H:Hp}{s:Uj}{R:It->Hp->Prop}{E:Value->Uj->Prop}{lo hi:Int}{t u v:Tok}{tk:Nat}(I:Inv X pins σ H s)(h1: -(2 ^ 62)<=lo)(h2:lo < 2 ^ 62)(h3: -(2 ^ 62)<=hi)(h4:hi < 2 ^ 62)
  (q:R (RC lo (hi - lo).toNat) H):wpAny (model X.prog X.w) X.A (abg (.ref s.heap.objs.size)) (Ow X pins σ tg R) E { s with heap:=s.heap.push { cls:= .type "range",data:= .fields #[.int lo t,.int hi u,.int 1 v] },toks:=tk }:=by
 refine wpAny_pyIter_range (abX ..) (small_one h1 h2 h3 h4) ?_;have I1:Inv X pins σ H { s with heap:=s.heap.push { cls:= .type "range",data:= .fields #[.int lo t,.int hi u,.int 1 v] },toks:=tk }:=I.kept λb o e=>Uk _ e;refine⟨(s.heap.push { cls:= .type "range",data:= .fields #[.int lo t,.int hi u,.int 1 v] }).objs.size,[(s.heap.push { cls:= .type "range",data:= .fields #[.int lo t,.int hi u,.int 1 v] }).objs.size],_,_,H,rfl,
  I1.kept (t':=tk) λb o e=>Uk _ e,yu _ lo (hi - lo).toNat,?_,λb hb=>?_,q⟩
 . have e1:lo+((0:Nat):Int)*1=lo:=by simp
   have e2:(((hi - lo).toNat:Nat):Int) - ((0:Nat):Int)=Zn lo hi 1:=by rw[rangeSize_one];split<;>omega
   show IsRangeIter _ _ (lo+((0:Nat):Int)*1) ((((hi - lo).toNat:Nat):Int) - ((0:Nat):Int)) 1;rw[e1,e2];exact UB _ rfl
 . have e:b=(s.heap.push { cls:= .type "range",data:= .fields #[.int lo t,.int hi u,.int 1 v] }).objs.size:=by simpa using hb
   subst e;exact I1.Nn (Uo _) (I1.bD.fresh (Uo _))
noncomputable def Ou(ta:TA):TI:=fun σ H R=>ta σ H λvs H1=> ∃ j:Int,vs=[.int j]/\ -(2 ^ 62)<=j/\j < 2 ^ 62/\R (RC 0 j.toNat) H1
theorem zW{a:Expr}{ta:TA}{p pos:Pos}(hg:Gl X "range")(hm:X.mg "range" =none)(ha:PA X [a] ta)(hs:U7 [a] X.env=[(false,eval a X.env)]:=by rfl):PI X tg (.Call (.Name "range" p) [a] [] pos) (Ou ta):=by
 intro pins s σ H R I h;refine Call_ (kM I hg hm boot_range (VO (cL (ha pos pins s σ H _ I h) λus s1 ⟨vs,H1,I1,r1,q1⟩=>?_) hs rfl));obtain⟨j,e,q1,q2,q⟩:=q1;subst e;cases r1 with
 | cons r rr =>
  cases rr
  obtain⟨t,rfl⟩:=r
  exact call_range_1 (D3 I1 (by omega) (by omega) q1 q2 (by simpa using q))
noncomputable def Qd(wi:TI)(g:TG)(tb:TS):TS:=λD σ H=>wi σ H λJ H1=> ∃ W:Nat->Nat->St->Hp->Prop,(∃ m,W 0 m σ H1)/\ ∀ i m σ H,W i m σ H ->
 (J.stop i H/\D.nx σ H)\/(J.go i H/\ ∃ N:St->Hp->Prop,(∀ σ' H',N σ' H'-> ∃ m',m' < m/\W (i+1) m' σ' H')/\ ∀ x H',J.Ja i H x H'->g x σ H' fun σ2 H2=>tb { D with nx:=N,ct:=N,bk:=D.nx } σ2 H2)
noncomputable def tM(fp:List Addr)(h:Heap):List (Addr × Obj):=fp.filterMap λb=>(h.get? b).map λo=>(b,o)
theorem eG{fp:List Addr}{h:Heap}{b:Addr}{o:Obj}(hb:b∈fp)(e:h.get? b=some o):(b,o)∈tM fp h:=aaM.mpr ⟨b,hb,by rw[e];rfl⟩
theorem Af{fp:List Addr}{h:Heap}{p:Addr × Obj}(hp:p∈tM fp h):p.1∈fp/\h.get? p.1=some p.2:=by
 obtain⟨b,hb,e⟩:=aaM.mp hp;cases q:h.get? b with
 | none=>rw[q] at e;cases e
 | some o =>
  rw[q] at e
  have e':(b,o)=p:=Vg e
  subst e'
  exact⟨hb,q⟩
theorem Inv.pinned{pins:List (Addr × Obj)}{σ :St}{H:Hp}{s:Uj}{fp:List Addr}(I:Inv X pins σ H s)(hf: ∀ b∈fp,nW X pins H b)(ho: ∀ b∈fp,∃ o,s.heap.get? b=some o/\ ∀ v,o.data≠ .cell v):Inv X (pins++tM fp s.heap) σ H s :=
 I.jH λp hp=>(Vl.mp hp).elim (λz=>I.pin p (UP _ z)) λz=>by
  obtain⟨hb,e⟩:=Af z;obtain⟨f0,f1,f2,_⟩:=hf p.1 hb;obtain⟨o,e',d⟩:=ho p.1 hb;rw[e] at e';cases e';exact⟨e,f0,f1,f2,d⟩
theorem Inv.pW{pins pl:List (Addr × Obj)}{σ :St}{H:Hp}{s:Uj}(I:Inv X (pins++pl) σ H s):Inv X pins σ H s:=I.jH λp hp=>I.pin p (UP _ (Xc _ hp))
theorem MW{iter:Expr}{body:List Stmt}{wi:TI}{g:TG}{tb:TS}{pos:Pos}(hp:Zm (model X.prog X.w) X.A X.env X.xe)(hc:X.calm=true)(hi:PI X tg iter wi)(hg:PG X tg g)(hb:xw X body tb)
  (hs: ∀ x,U9 iter X.env x=pure x:=by intro _;rfl):PS X (.For tg iter body [] pos) (Qd wi g tb):=by
 intro pins s σ H D I h;refine wpAny_For (cL (hi pins s σ H _ I h) λv s1 h1=>cL h1 λitv s2 h2=>?_) hs;obtain ⟨it,fp,tn,J,H2,e,I2,T,st2,f2,W,⟨m0,w0⟩,turn⟩:=h2;subst e;have stat: ∀ {H':Hp},(∀ b∈fp,H' b=none)-> ∀ b∈fp,nW X pins H' b:=λhn b hb=>⟨hn b hb,(f2 b hb).2⟩
 refine codeAny_forLoop_any (λn s'=> ∃ i σ' H',Inv X pins σ' H' s'∧tn i s'.heap∧(∀ b∈fp,H' b=none)∧W i n σ' H') ?_ m0 ⟨0, σ,H2,I2,st2,λb hb=>(f2 b hb).1,w0⟩;rintro n s3 ⟨i, σ3,H3,I3,mh,fr3,w3⟩;rcases turn i n σ3 H3 w3 with ⟨stop,qn⟩ | ⟨go,N,hN,step⟩
 . refine Wy hp (cL (T.done X rfl rfl rfl hc i pins s3 σ3 H3 X.xe I3 (stat fr3) mh stop) λr s4 ⟨hr,I4⟩=>?_);subst hr;exact Yi ⟨σ3,H3,I4,qn⟩
 . refine Wy hp (cL (T.item X rfl rfl rfl hc i pins s3 σ3 H3 X.xe I3 (stat fr3) mh go) λr s4 ⟨u,hr,h4⟩=>?_);subst hr;refine Wy hp (cL h4 λ_ s5 ⟨x,H5,I5,r5,y5,st5,fr5⟩=>?_);have I5':=I5.pinned (stat fr5) (T.obj _ _ st5);refine Wy hp (cL (hg _ s5 σ3 H5 x u _ I5' r5 (step x H5 y5)) λ_ s6 ⟨σ6,H6,I6,q6⟩=>?_);refine Wy hp (cL (hb _ s6 σ6 H6 _ I6 q6) λf s7 q7=>?_);have again: ∀ {σ7:St} {H7:Hp},Inv X (pins++tM fp s5.heap) σ7 H7 s7->N σ7 H7-> ∃ m,m < n∧ ∃ i σ' H',Inv X pins σ' H' s7∧tn i s7.heap∧(∀ b∈fp,H' b=none)∧W i m σ' H':=λ{σ7 H7} I7 n7=>by
    obtain ⟨m',hm,w7⟩:=hN σ7 H7 n7;refine ⟨m',hm,i+1, σ7,H7,I7.pW,T.keep _ _ _ st5 λb hb o e=>(I7.pin (b,o) (UP _ (UP _ (eG hb e)))).1,λb hb=>?_,w7⟩;obtain ⟨o,e,d⟩:=T.obj _ _ st5 b hb;exact (I7.pin (b,o) (UP _ (UP _ (eG hb e)))).2.1
   cases f with
   | next=>obtain ⟨σ7,H7,I7,n7⟩:=q7;exact again I7 n7
   | cont=>obtain ⟨σ7,H7,I7,n7⟩:=q7;exact again I7 n7
   | brk=>obtain ⟨σ7,H7,I7,q7⟩:=q7;exact ⟨σ7,H7,I7.pW,q7⟩
   | ret v=>obtain ⟨x7, σ7,H7,I7,r7,q7⟩:=q7;exact ⟨x7, σ7,H7,I7.pW,r7,q7⟩
end
abbrev R2:=V->V->Hp->VK->Prop
noncomputable def dw(X:Cx)(f:Value->Value->Sem Value)(r:R2):Prop :=
 ∀(pins:List (Addr × Obj))(s:Uj)(σ :St)(H:Hp)(x y:V)(v u:Value)(Q:VK),Inv X pins σ H s->RelV x v->RelV y u->r x y H Q ->
  wpAny (model X.prog X.w) X.A (f v u) (EP X pins σ Q) X.xe s
noncomputable def aV(X:Cx)(f:Value)(r:List V->Hp->VK->Prop):Prop :=
 ∀(pins:List (Addr × Obj))(s:Uj)(σ :St)(H:Hp)(xs:List V)(us:List Value)(Q:VK),Inv X pins σ H s->Vals xs us->r xs H Q ->
  wpAny (model X.prog X.w) X.A (call f us) (EP X pins σ Q) X.xe s
noncomputable def HK(r:R2)(ta tb:TE):TE:=fun σ H Q=>ta σ H λx H1=>tb σ H1 λy H2=>r x y H2 Q
noncomputable def rI(C:Int->Int->Prop)(g:Int->Int->V):R2:=λx y H Q=> ∃ i j,x= .int i/\y= .int j/\C i j/\Q (g i j) H
noncomputable def EG(g:Int->Int->V):R2:=λx y H Q=> ∃ i j,x= .int i/\y= .int j/\Q (g i j) H
section
variable{X:Cx}{a b c:Expr}{ta tb tc:TE}{pos:Pos}
theorem Nc(ha:PE X a ta)(hb:PE X b tb){pins:List (Addr × Obj)}{s:Uj}{σ :St}{H:Hp}{R:V->V->Hp->Prop}(I:Inv X pins σ H s)
  (h:ta σ H λx H1=>tb σ H1 λy H2=>R x y H2) {Q:Value->Uj->Prop} {f:Value->Value->Sem Value}
  (hf: ∀ v u s2 x y H2,Inv X pins σ H2 s2->RelV x v->RelV y u->R x y H2->wpAny (model X.prog X.w) X.A (f v u) Q X.xe s2) :
  wpAny (model X.prog X.w) X.A (eval a X.env) (λv s₁ =>wpAny (model X.prog X.w) X.A (eval b X.env) (λu s₂ =>wpAny (model X.prog X.w) X.A (f v u) Q X.xe s₂) X.xe s₁) X.xe s:=by
 refine cL (ha pins s σ H _ I h) λv s1 ⟨x,H1,I1,r1,q1⟩=>?_;refine cL (hb pins s1 σ H1 _ I1 q1) λu s2 ⟨y,H2,I2,r2,q2⟩=>?_;exact hf v u s2 x y H2 I2 r1 r2 q2
theorem O9{op:Operator}{r:R2}(ho:dw X (VD op) r)(ha:PE X a ta)(hb:PE X b tb):PE X (.BinOp a op b pos) (HK r ta tb):=by
 intro pins s σ H Q I h;exact wpAny_BinOp (Nc ha hb I h λv u s2 x y H2 I2 rx ry q=>ho pins s2 σ H2 x y v u Q I2 rx ry q)
theorem Rp{f:Value->Value->Sem Value}{C:Int->Int->Prop}{g:Int->Int->Int}
  (rule: ∀(i j:Int)(t u:Tok)(s:Uj)(Q:Value->Uj->Prop)(E:Value->Uj->Prop),C i j->Q (.int (g i j) s.toks) { s with toks:=s.toks+1 }->wpAny (model X.prog X.w) X.A (f (.int i t) (.int j u)) Q E s) :
  dw X f (rI C λi j=> .int (g i j)):=by
 intro pins s σ H x y v u Q I rx ry h;obtain⟨i,j,rfl,rfl,hc,q⟩:=h;obtain⟨t,rfl⟩:=rx;obtain⟨t',rfl⟩:=ry;exact rule i j t t' s _ _ hc ⟨.int (g i j),H,I.tok _,⟨_,rfl⟩,q⟩
theorem QR{f:Value->Value->Sem Value}{g:Int->Int->Int}
  (rule: ∀(i j:Int)(t u:Tok)(s:Uj)(Q:Value->Uj->Prop)(E:Value->Uj->Prop),Q (.int (g i j) s.toks) { s with toks:=s.toks+1 }->wpAny (model X.prog X.w) X.A (f (.int i t) (.int j u)) Q E s) :
  dw X f (EG λi j=> .int (g i j)):=by
 intro pins s σ H x y v u Q I rx ry h;obtain⟨i,j,rfl,rfl,q⟩:=h;obtain⟨t,rfl⟩:=rx;obtain⟨t',rfl⟩:=ry;exact rule i j t t' s _ _ ⟨.int (g i j),H,I.tok _,⟨_,rfl⟩,q⟩
theorem Gj{f:Value->Value->Sem Value}{g:Int->Int->Bool}
  (rule: ∀(i j:Int)(t u:Tok)(s:Uj)(Q:Value->Uj->Prop)(E:Value->Uj->Prop),Q (.bool (g i j)) s->wpAny (model X.prog X.w) X.A (f (.int i t) (.int j u)) Q E s) :
  dw X f (EG λi j=> .bl (g i j)):=by
 intro pins s σ H x y v u Q I rx ry h;obtain⟨i,j,rfl,rfl,q⟩:=h;obtain⟨t,rfl⟩:=rx;obtain⟨t',rfl⟩:=ry;exact rule i j t t' s _ _ ⟨.bl (g i j),H,I,rfl,q⟩
noncomputable def RT(i j:Int):Prop:=0 < j/\j < 1073741824
noncomputable def RS(i j:Int):Prop:=0<=j/\j<=1000000/\i.natAbs < 2 ^ 64
noncomputable def JR(i j:Int):Prop:=(-(2 ^ 64) < i/\i < 2 ^ 64)\/(-(2 ^ 64) < j/\j < 2 ^ 64)
theorem JR.ok{i j:Int}(h:JR i j):IntMulOk i j:=by
 rcases h with⟨h1,h2⟩ | ⟨h1,h2⟩
 . exact .of_left (intBits_le_64 h1 h2)
 . exact .of_right (intBits_le_64 h1 h2)
theorem J4:dw X (VD .Add) (EG λi j=> .int (i+j)):=QR λ_ _ _ _ _ _ _ q=>add_int q
theorem KU:dw X (VD .Sub) (EG λi j=> .int (i - j)):=QR λ_ _ _ _ _ _ _ q=>sub_int q
theorem JU:dw X (VD .Mult) (rI JR λi j=> .int (i*j)):=Rp λ_ _ _ _ _ _ _ hc q=>mul_int q hc.ok
theorem GP:dw X (VD .FloorDiv) (rI RT λi j=> .int (i / j)):=Rp λi j _ _ _ _ _ hc q=>by
 have h1:(0:Int) < j:=hc.1;have h2:j < 1073741824:=hc.2;exact floordiv_int (by omega) (by rw[Int.fdiv_eq_ediv_of_nonneg i (by omega)];exact q) (.inl (PyProof.noPylong_small (by omega)))
theorem Nd:dw X (VD .Mod) (rI (λ_ j=>0 < j) λi j=> .int (i % j)):=Rp λi j _ _ _ _ _ hc q=>by
 have h1:(0:Int) < j:=hc;exact mod_int' (by omega) (by rw[Int.fmod_eq_emod_of_nonneg i (by omega)];exact q)
theorem MX:dw X (VD .Pow) (rI RS λi j=> .int (i ^ j.toNat)):=Rp λ_ _ _ _ _ _ _ hc q=>pow_int_small hc.1 hc.2.1 hc.2.2 q
end
noncomputable def Ec:V->V->Bool
 | .non,.non=>true | .non,.int _=>true | .int _,.non=>true | .non,.bl _=>true | .bl _,.non=>true | .non,.str _=>true | .str _,.non=>true
 | .int _,.int _=>true | .bl _,.bl _=>true | .str _,.str _=>true | .byt _,.byt _=>true
 | .int _,.str _=>true | .str _,.int _=>true | .bl _,.str _=>true | .str _,.bl _=>true
 | _,_=>false
noncomputable def TY:R2:=λx y H Q=>Ec x y=true/\Q (.bl (decide (x=y))) H
noncomputable def T1:R2:=λx y H Q=>Ec x y=true/\Q (.bl (!decide (x=y))) H
theorem y8{i j:Int}:decide (V.int i=V.int j)=(i == j):=by
 rw[Xx];simp
theorem BG{i j:Bool}:decide (V.bl i=V.bl j)=(i == j):=by
 rw[Xx];simp
theorem zC{i j:Str}:decide (V.str i=V.str j)=(i == j):=by
 rw[Xx];simp
theorem yQ{i j:Array UInt8}:decide (V.byt i=V.byt j)=(i.toList == j.toList):=by
 rw[Xx];cases i;cases j;simp
section
variable{X:Cx}{a b c:Expr}{ta tb tc:TE}{pos:Pos}
theorem aY{pins:List (Addr × Obj)}{σ :St}{H:Hp}{s:Uj}{Q:VK}{k k':Bool}(I:Inv X pins σ H s)(q:Q (.bl k) H)(e:k=k'):EP X pins σ Q (.bool k') s:=by
 subst e;exact⟨.bl k,H,I,rfl,q⟩
theorem OU:dw X (UY .Eq) TY:=by
 intro pins s σ H x y v u Q I rx ry h;obtain⟨hs,q⟩:=h;cases x with
 | non =>
  cases rx
  cases y with
  | non=>cases ry;exact PySem.EqNone.eq_none_none (aY I q (by simp))
  | bl j=>cases ry;exact PySem.EqNone.eq_none_bool (aY I q (by simp))
  | int j=>obtain⟨t',rfl⟩:=ry;exact PySem.EqNone.eq_none_int (aY I q (by simp))
  | str j=>obtain⟨t',rfl⟩:=ry;exact PySem.EqNone.eq_none_str (aY I q (by simp))
  | _=>exact absurd (show false=true from hs) UG
 | bl i =>
  cases rx
  cases y with
  | non=>cases ry;exact PySem.EqNone.eq_bool_none (aY I q (by simp))
  | bl j=>cases ry;exact eq_bool (aY I q BG)
  | str j=>obtain⟨t',rfl⟩:=ry;exact PySem.EqMixed.eq_bool_str (aY I q (by simp))
  | _=>exact absurd (show false=true from hs) UG
 | int i =>
  obtain⟨t,rfl⟩:=rx
  cases y with
  | non=>cases ry;exact PySem.EqNone.eq_int_none (aY I q (by simp))
  | int j=>obtain⟨t',rfl⟩:=ry;exact eq_int (aY I q y8)
  | str j=>obtain⟨t',rfl⟩:=ry;exact PySem.EqMixed.eq_int_str (aY I q (by simp))
  | _=>exact absurd (show false=true from hs) UG
 | str i =>
  obtain⟨t,rfl⟩:=rx
  cases y with
  | non=>cases ry;exact PySem.EqNone.eq_str_none (aY I q (by simp))
  | bl j=>cases ry;exact PySem.EqMixed.eq_str_bool (aY I q (by simp))
  | int j=>obtain⟨t',rfl⟩:=ry;exact PySem.EqMixed.eq_str_int (aY I q (by simp))
  | str j=>obtain⟨t',rfl⟩:=ry;exact eq_str (aY I q zC)
  | _=>exact absurd (show false=true from hs) UG
 | byt i =>
  obtain⟨t,rfl⟩:=rx
  cases y with
  | byt j=>obtain⟨t',rfl⟩:=ry;exact PySem.W.eq_bytes (aY I q yQ)
  | _=>exact absurd (show false=true from hs) UG
 | _=>cases y<;>exact absurd (show false=true from hs) UG
theorem ON:dw X (UY .NotEq) T1:=by
 intro pins s σ H x y v u Q I rx ry h;obtain⟨hs,q⟩:=h;cases x with
 | non =>
  cases rx
  cases y with
  | non=>cases ry;exact PySem.EqNone.ne_none_none (aY I q (by simp))
  | bl j=>cases ry;exact PySem.EqNone.ne_none_bool (aY I q (by simp))
  | int j=>obtain⟨t',rfl⟩:=ry;exact PySem.EqNone.ne_none_int (aY I q (by simp))
  | str j=>obtain⟨t',rfl⟩:=ry;exact PySem.EqNone.ne_none_str (aY I q (by simp))
  | _=>exact absurd (show false=true from hs) UG
 | bl i =>
  cases rx
  cases y with
  | non=>cases ry;exact PySem.EqNone.ne_bool_none (aY I q (by simp))
  | bl j=>cases ry;exact ne_bool (aY I q (congrArg not BG))
  | str j=>obtain⟨t',rfl⟩:=ry;exact PySem.EqMixed.ne_bool_str (aY I q (by simp))
  | _=>exact absurd (show false=true from hs) UG
 | int i =>
  obtain⟨t,rfl⟩:=rx
  cases y with
  | non=>cases ry;exact PySem.EqNone.ne_int_none (aY I q (by simp))
  | int j=>obtain⟨t',rfl⟩:=ry;exact ne_int (aY I q (congrArg not y8))
  | str j=>obtain⟨t',rfl⟩:=ry;exact PySem.EqMixed.ne_int_str (aY I q (by simp))
  | _=>exact absurd (show false=true from hs) UG
 | str i =>
  obtain⟨t,rfl⟩:=rx
  cases y with
  | non=>cases ry;exact PySem.EqNone.ne_str_none (aY I q (by simp))
  | bl j=>cases ry;exact PySem.EqMixed.ne_str_bool (aY I q (by simp))
  | int j=>obtain⟨t',rfl⟩:=ry;exact PySem.EqMixed.ne_str_int (aY I q (by simp))
  | str j=>obtain⟨t',rfl⟩:=ry;exact ne_str (aY I q (congrArg not zC))
  | _=>exact absurd (show false=true from hs) UG
 | byt i =>
  obtain⟨t,rfl⟩:=rx
  cases y with
  | byt j=>obtain⟨t',rfl⟩:=ry;exact PySem.W.ne_bytes (aY I q (congrArg not yQ))
  | _=>exact absurd (show false=true from hs) UG
 | _=>cases y<;>exact absurd (show false=true from hs) UG
theorem Q5:dw X (UY .Lt) (EG λi j=> .bl (decide (i < j))):=Gj λ_ _ _ _ _ _ _ q=>lt_int q
theorem OJ:dw X (UY .LtE) (EG λi j=> .bl (decide (i<=j))):=Gj λ_ _ _ _ _ _ _ q=>le_int q
theorem Qi:dw X (UY .Gt) (EG λi j=> .bl (decide (j < i))):=Gj λ_ _ _ _ _ _ _ q=>gt_int q
theorem Pt:dw X (UY .GtE) (EG λi j=> .bl (decide (j<=i))):=Gj λ_ _ _ _ _ _ _ q=>ge_int q
theorem Ai:dw X (UY .In) (λx y H Q=> ∃ i j,x= .str i/\y= .str j/\Q (.bl (!(WM j i 0 j.length 1).isEmpty)) H):=by
 intro pins s σ H x y v u Q I rx ry h;obtain⟨i,j,rfl,rfl,q⟩:=h;obtain⟨t,rfl⟩:=rx;obtain⟨t',rfl⟩:=ry;exact in_str (aY I q rfl)
theorem dw.or{f:Value->Value->Sem Value}{r r':R2}(h:dw X f r)(h':dw X f r'):dw X f (λx y H Q=>r x y H Q\/r' x y H Q):=by
 intro pins s σ H x y v u Q I rx ry q;rcases q with q | q
 . exact h pins s σ H x y v u Q I rx ry q
 . exact h' pins s σ H x y v u Q I rx ry q
theorem Ej(b:Expr){op:CmpOp}(h:op≠ .In:=by decide)(h2:op≠ .NotIn:=by decide):VH op b=false:=by
 have e1:(op == CmpOp.In)=false:=by cases op<;>first | rfl | exact absurd rfl h
 have e2:(op == CmpOp.NotIn)=false:=by cases op<;>first | rfl | exact absurd rfl h2
 cases b<;>simp[VH,e1,e2]
theorem Fh{op:CmpOp}{r:R2}(ho:dw X (UY op) r)(ha:PE X a ta)(hb:PE X b tb)(hm:VH op b=false):PE X (.Compare a [op] [b] pos) (HK r ta tb):=by
 intro pins s σ H Q I h;exact wpAny_Compare1 (Nc ha hb I h λv u s2 x y H2 I2 rx ry q=>ho pins s2 σ H2 x y v u Q I2 rx ry q) hm
noncomputable def CZ(t:TE):TT:=fun σ H Q=>t σ H λx H'=> ∃ k,x= .bl k/\Q k H'
theorem FG{op:CmpOp}{r:R2}(ho:dw X (UY op) r)(ha:PE X a ta)(hb:PE X b tb)(hm:VH op b=false):PT X (.Compare a [op] [b] pos) (CZ (HK r ta tb)):=by
 intro pins s σ H Q I h;refine Z0 (cL (ha pins s σ H _ I h) λv s1 ⟨x,H1,I1,r1,q1⟩=>cL (hb pins s1 σ H1 _ I1 q1) λu s2 ⟨y,H2,I2,r2,q2⟩ =>
  cL (ho pins s2 σ H2 x y v u _ I2 r1 r2 q2) λc s3 ⟨z,H3,I3,r3,k,e,q3⟩=>?_) hm
 subst e;cases r3;exact V8 ⟨H3,I3,q3⟩
noncomputable def wR(r r':R2)(ta tb tc:TE):TE:=fun σ H Q=>ta σ H λx H1=>tb σ H1 λy H2=>r x y H2 λz H3=> ∃ k,z= .bl k /\
 (if k=true then tc σ H3 λw' H4=>r' y w' H4 Q else Q (.bl false) H3)
theorem EE{op op':CmpOp}{r r':R2}(ho:dw X (UY op) r)(ho':dw X (UY op') r')(ha:PE X a ta)(hb:PE X b tb)(hc:PE X c tc)
  (hm:lastMarks [op,op'] [b,c]=false:=by with_unfolding_all rfl):PE X (.Compare a [op,op'] [b,c] pos) (wR r r' ta tb tc):=by
 intro pins s σ H Q I h;refine Compare_chain (cL (ha pins s σ H _ I h) λv s1 ⟨x,H1,I1,r1,q1⟩=>chain_link (cL (hb pins s1 σ H1 _ I1 q1) λu s2 ⟨y,H2,I2,r2,q2⟩ =>
  cL (ho pins s2 σ H2 x y v u _ I2 r1 r2 q2) λd s3 ⟨z,H3,I3,r3,k,e,q3⟩=>?_)) hm
 subst e;cases r3;refine V8 ?_;cases k with
 | false=>exact ite_ff ⟨.bl false,H3,I3,rfl,q3⟩
 | true=>exact ite_tt (chain_last (cL (hc pins s3 σ H3 _ I3 q3) λw' s4 ⟨z',H4,I4,r4,q4⟩=>ho' pins s4 σ H4 y z' u w' Q I4 r2 r4 q4))
theorem ny:(sizeLine:Nat) < 2 ^ 63:=by rw[abu];decide
theorem vals1{x:V}{us:List Value}(r:Vals [x] us): ∃ u,us=[u]/\RelV x u:=by
 cases r with
 | cons r1 r2=>cases r2;exact⟨_,rfl,r1⟩
theorem vals2{x y:V}{us:List Value}(r:Vals [x,y] us): ∃ u w',us=[u,w']/\RelV x u/\RelV y w':=by
 cases r with
 | cons r1 r2 =>
  cases r2 with
  | cons r3 r4=>cases r4;exact⟨_,_,rfl,r1,r3⟩
theorem AL:aV X (.type "int") (λxs H Q=>(∃ i,xs=[.int i]/\Q (.int i) H)\/ ∃ k,xs=[.bl k]/\Q (.int (if k then 1 else 0)) H):=by
 intro pins s σ H xs us Q I r h;rcases h with⟨i,rfl,q⟩ | ⟨k,rfl,q⟩
 . obtain⟨u,rfl,t,rfl⟩:=vals1 r;exact call_int_int ⟨.int i,H,I,⟨_,rfl⟩,q⟩
 . obtain⟨u,rfl,r1⟩:=vals1 r;cases r1;exact call_int_bool ⟨.int (if k then 1 else 0),H,I.tok _,⟨_,rfl⟩,q⟩
end
structure KY(h:Heap)(x dx C:Addr)(mA:Str->Option Value):Prop where
 obj:h.get? x=some (Wx C dx)
 ns:h.Ns1 dx mA
 ne:dx≠x
theorem AI{h:Heap}{dx:Addr}{mA:Str->Option Value}(n:h.Ns1 dx mA): ∃ od,h.get? dx=some od/\ ∀ name,aad name od=some (mA name):=by
 obtain⟨o,es,ep,ho,hd,hk,_,hm⟩:=n;refine⟨o,ho,λname=>?_⟩;have e:=hm name;unfold nsFind findBy at e;rw[<- Array.find?_toList] at e;unfold aad;rw[hd];dsimp only;split
 . rename_i y q;rw[q] at e;exact congrArg some e
 . rename_i q;rw[q] at e;have a:es.toList.any (·.refKey)=false:=by
    rw[List.any_eq_false];intro y hy;obtain⟨z,t,hkey⟩:=hk y (Array.mem_toList_iff.mp hy);simp[DictEntry.refKey,hkey]
   have a': ¬ es.toList.any (·.refKey)=true:=by rw[a];exact UG
   rw[if_neg a'];exact congrArg some e
theorem KY.look{h:Heap}{x dx C:Addr}{mA:Str->Option Value}(I:KY h x dx C mA): ∃ od,PySem.W.InstAt h x (Wx C dx) C (some od)/\ ∀ name,aad name od=some (mA name) :=
 let ⟨od,ho,hl⟩:=AI I.ns
 ⟨od,⟨I.obj,rfl,rfl,ho⟩,hl⟩
theorem lN.some_of{v:V}{o:Option Value}(r:lN (some v) o): ∃ u,o=some u/\RelV v u:=by
 cases o with
 | none=>exact(show False from r).elim
 | some u=>exact⟨u,rfl,r⟩
section
variable{P:UN}{w:World}{H H':Hp}{h h':Heap}{a C dx:Addr}{fs fs':List (Str × V)}
theorem HY(bD:ka P w H h)(e:H a=some (.ins C dx fs)): ∃ mA,KY h a dx C mA/\(∀ f,lN (fs.lookup f) (mA f))/\abS mA (fs.map (·.1))/\fs.length<=1000/\H dx=some (.own a):=by
 obtain⟨d,z,ne,ob,mA,n,r,q⟩:=(show ba P w H h a (.ins C dx fs) from bD a _ e)
 exact⟨mA,⟨ob,n,ne⟩,r,q,z,d⟩
end
structure So(K:Ud)(C:Addr):Prop where
 pg:abi K C Str.empty=true
 hd:PySem.W.hasDictIn K C=true
 po:PySem.W.plainOver K C=true
 sa:XM K (.ref C) "__setattr__" =some (some (.builtin "object.__setattr__"))
theorem So.get{K:Ud}{C:Addr}(c:So K C)(f:Str):abi K C f=true:=c.pg
structure Uc(K:Ud)(C:Addr)(f:Str)(v:V)(u:Value):Prop where
 at_:XM K (.ref C) f=some (some u)
 rel:RelV v u
 get:aaY K u "__get__" =some none
 cp:PySem.W.copiedNames.contains f=false
structure Meth(K:Ud)(C:Addr)(m:Str)(f:Addr):Prop where
 at_:XM K (.ref C) m=some (some (.ref f))
 fn:abU K (.ref f)=true
 kp:WN K (.ref f)=true
section
variable{X:Cx}{pins:List (Addr × Obj)}{σ :St}{H:Hp}{s:Uj}{a C dx:Addr}{fs:List (Str × V)}{f:Str}{v:V}{A:U6}{E:Value->Uj->Prop}
theorem Inv.made(I:Inv X pins σ H s):Inv X pins σ (upd (upd H s.heap.objs.size (.own (s.heap.objs.size+1))) (s.heap.objs.size+1) (.ins C s.heap.objs.size []))
  { s with heap:=(s.heap.push VS).push (Wx C s.heap.objs.size) }:=by
 have e1:(s.heap.push VS).get? s.heap.objs.size=some VS:=UB s.heap rfl;have e2:((s.heap.push VS).push (Wx C s.heap.objs.size)).get? (s.heap.objs.size+1)=some (Wx C s.heap.objs.size):=by
  have:=UB (s.heap.push VS) (o:=Wx C s.heap.objs.size) rfl
  rwa [Vy] at this
 have e3:(s.heap.push VS).Ns s.heap.objs.size (λ_=>none):=⟨VS, #[],_,e1,rfl,(λe he=>absurd he (by simp)),λ_=>rfl⟩
 have I1:=I.laid (a:=s.heap.objs.size) (o:= .own (s.heap.objs.size+1)) (h':=s.heap.push VS) (t':=s.toks) (λb u q=>Uk _ q) (Uo _) ⟨_,e1⟩;refine I1.laid (a:=s.heap.objs.size+1) (o:= .ins C s.heap.objs.size []) (t':=s.toks) (λb u q=>Uk _ q) (Nat.le_of_eq (Vy _ _)) ?_;have ne:s.heap.objs.size≠s.heap.objs.size+1:=UK (X3 _);refine⟨by rw[aB ne,bz],Vd _,ne,e2,λ_=>none,(Heap.Ns1.of_empty e3).at λo q=>Uk _ q,λ_=>Wn,λy hy=>absurd rfl hy⟩
end
section
variable{X:Cx}{pins:List (Addr × Obj)}{σ :St}{H:Hp}{s:Uj}{A:U6}{E:Value->Uj->Prop}{Q:Value->Uj->Prop}{c:Value}{b:Bool}
inductive jW(K:Ud)(H:Hp):V->Value->Prop where
 | non:jW K H .non (.type "NoneType")
 | bl (x:Bool):jW K H (.bl x) (.type "bool")
 | int (i:Int):jW K H (.int i) (.type "int")
 | str (x:Str):jW K H (.str x) (.type "str")
 | flt (x:UInt64):jW K H (.flt x) (.type "float")
 | lst {a:Addr} {xs:List V} (e:H a=some (.lst xs)):jW K H (.ref a) (.type "list")
 | kI {a:Addr} {o:Obj} {xs:List V} (e:H a=some (.kI o (.lst xs))):jW K H (.ref a) (.type "list")
 | tup {a:Addr} {xs:List V} (e:H a=some (.tup xs)):jW K H (.ref a) (.type "tuple")
 | dK {a:Addr} {kvs:List (Key × V)} (e:H a=some (.dK kvs)):jW K H (.ref a) (.type "dict")
 | dT {a:Addr} {kvs:List (List Key × V)} (e:H a=some (.dT kvs)):jW K H (.ref a) (.type "dict")
 | ins {a C dx:Addr} {fs:List (Str × V)} (e:H a=some (.ins C dx fs)) (cl:So K C) (ha:XM K (.ref C) "__class__" =some (some (.builtin "object.__class__")))
   (hn:aaY K (.builtin "object.__class__") "__get__" =some (some (.builtin "getset_descriptor.__get__"))) (htk:PySem.W.takesIn K (.builtin "object.__class__")=some true)
   (hm:PySem.W.mroIn K C (.type "object")=some true):jW K H (.ref a) (.ref C)
theorem zO{x:V}{u t:Value}(I:Inv X pins σ H s)(rx:RelV x u)(ty:jW X.K H x t)(e:YE X.K t c=some b)(h: ∀ tk,Q (.bool b) { s with toks:=tk }) :
  wpAny (model X.prog X.w) A (call (.builtin "isinstance") [u,c]) Q E s:=by
 cases ty with
 | non=>cases(show u=Wl from rx);exact Vz PySem.W.kitx_none I.my Wn e (λz=>nomatch z) h
 | bl y=>cases(show u=YC y from rx);exact Vz PySem.W.kitx_bool I.my Wn e (λz=>nomatch z) h
 | int i=>obtain⟨t,q⟩:=(show ∃ t,u=Xf i t from rx);cases q;exact Vz PySem.W.kitx_int I.my Wn e (λz=>nomatch z) h
 | str y=>obtain⟨t,q⟩:=(show ∃ t,u=X0 y t from rx);cases q;exact Vz PySem.W.kitx_str I.my Wn e (λz=>nomatch z) h
 | flt y=>obtain⟨t,q⟩:=(show ∃ t,u=abt y t from rx);cases q;exact Vz abH I.my Wn e (λz=>nomatch z) h
 | @lst a xs ea =>
  cases(show u=UJ a from rx)
  obtain⟨_,_,n,_,h1⟩:=(show ba X.prog X.w H s.heap a (.lst xs) from I.bD a _ ea)
  exact Vz Za I.my ⟨_,h1,rfl⟩ e (λz=>nomatch z) h
 | @kI a ob xs ea =>
  cases(show u=UJ a from rx)
  obtain⟨_,_,_,n,_,h1⟩:=(show ba X.prog X.w H s.heap a (.kI ob (.lst xs)) from I.bD a _ ea)
  exact Vz Za I.my ⟨_,h1,rfl⟩ e (λz=>nomatch z) h
 | @tup a xs ea =>
  cases(show u=UJ a from rx)
  obtain⟨_,_,_,p⟩:=(show ba X.prog X.w H s.heap a (.tup xs) from I.bD a _ ea)
  obtain⟨o,h1,h2,_⟩:=p
  exact Vz abI I.my ⟨o,h1,h2⟩ e (λz=>nomatch z) h
 | @dK a kvs ea =>
  cases(show u=UJ a from rx)
  obtain⟨_,_,vs,_,p⟩:=(show ba X.prog X.w H s.heap a (.dK kvs) from I.bD a _ ea)
  obtain⟨o,es,ep,h1,h2,_⟩:=p
  exact Vz Zb I.my ⟨o,h1,h2.1⟩ e (λz=>nomatch z) h
 | @dT a kvs ea =>
  cases(show u=UJ a from rx)
  obtain⟨_,_,xs,_,o,es,ep,h1,h2,_⟩:=(show ba X.prog X.w H s.heap a (.dT kvs) from I.bD a _ ea)
  exact Vz Zb I.my ⟨o,h1,h2.1⟩ e (λz=>nomatch z) h
 | @ins a C dx fs ea cl ha hn htk hm =>
  cases(show u=UJ a from rx)
  obtain⟨mA,O,_⟩:=HY I.bD ea
  obtain⟨od,J,_⟩:=O.look
  exact Vz (PySem.W.kitx_own (cl.get _) cl.hd ha hn htk hm) I.my J e (λz=>nomatch z) h
end
structure dP(k:Nat)(A:U6):Prop where
 hd:A.handled=none
 dp:A.depth+3*k+5 < recursionLimit
 un:A.units+16*k+200 < cLine
 gd:A.guards=some []
theorem dP.mono{j k:Nat}{A:U6}(r:dP k A)(h:j<=k):dP j A:=⟨r.hd,by have:=r.dp;omega,by have:=r.un;omega,r.gd⟩
theorem dP.deeper{k:Nat}{A:U6}(r:dP (k+1) A)(env:Env):dP k (A.deeper env) :=
 ⟨r.hd,by have:=r.dp;show A.depth+1+3*k+5 < _;omega,by have:=r.un;show A.units+3+16*k+200 < _;omega,r.gd⟩
theorem dP.in1{k:Nat}{A:U6}(r:dP (k+1) A):dP k A.in1 :=
 ⟨r.hd,by have:=r.dp;show A.depth+3*k+5 < _;omega,by have:=r.un;show A.units+1+16*k+200 < _;omega,r.gd⟩
theorem dP.depth{k:Nat}{A:U6}(r:dP k A):A.depth < recursionLimit:=by have:=r.dp;omega
theorem dP.units{k:Nat}{A:U6}(r:dP k A):A.units+64 < cLine:=by have:=r.un;omega
theorem dP.LS{k:Nat}{A:U6}(r:dP k A):A.units < cLine:=by have:=r.un;omega
noncomputable def Oc:TA:=λ_ H Q=>Q [] H
noncomputable def BF(ta:TE)(tr:TA):TA:=fun σ H Q=>ta σ H λx H1=>tr σ H1 λxs H2=>Q (x::xs) H2
section
variable{X:Cx}{e:Expr}{es:List Expr}{te:TE}{t:TA}{pos:Pos}
theorem Li:PA X [] Oc:=λ_ _ _ _ H Q I h=>YY ⟨[],H,I,.nil,h⟩
theorem FY(ha:PE X e te)(hr:PA X es t)(hs:U7 (e::es) X.env=(false,eval e X.env)::U7 es X.env:=by rfl):PA X (e::es) (BF te t):=by
 intro pos pins s σ H Q I h;rw[hs];show wpAny _ _ (spliced ((false,eval e X.env)::XI pos (U7 es X.env))) _ _ s;refine XA (cL (ha pins s σ H _ I h) λu s1 ⟨x,H1,I1,r1,q1⟩=>?_);exact cL (hr pos pins s1 σ H1 _ I1 q1) λus s2 ⟨xs,H2,I2,r2,q2⟩=>⟨x::xs,H2,I2,.cons r1 r2,q2⟩
noncomputable def Qa(t:TA):TE:=fun σ H Q=>t σ H λxs H1=>xs.length<=sizeLine/\ ∀ p,H1 p=none->Q (.ref p) (upd H1 p (.tup xs))
noncomputable def Oh(t:TA):TE:=fun σ H Q=>t σ H λxs H1=>xs.length<=sizeLine/\ ∀ p,H1 p=none->Q (.ref p) (upd H1 p (.lst xs))
theorem Kj{x1}(h:PA X es t):PE X (.Tuple es x1 pos) (Qa t):=by
 intro pins s σ H Q I hq;refine wpAny_Tuple_spliced (cL (h pos pins s σ H _ I hq) λus s1 ⟨xs,H1,I1,r,z,q⟩=>⟨by rw[<- r.length];exact z,?_⟩);have hf:H1 s1.heap.objs.size=none:=I1.bD.fresh (Uo _);refine⟨.ref s1.heap.objs.size,upd H1 s1.heap.objs.size (.tup xs),I1.laid (t':=s1.toks) (λb u e=>Uk _ e) (Uo _) ?_,rfl,q _ hf⟩;exact⟨z,us,r,⟨_,UB _ rfl,rfl,_,rfl,rfl⟩⟩
theorem M3(h:PA X es t):PE X (.List es pos) (Oh t):=by
 intro pins s σ H Q I hq;refine wpAny_List_spliced (cL (h pos pins s σ H _ I hq) λus s1 ⟨xs,H1,I1,r,z,q⟩=>⟨by rw[<- r.length];exact z,?_⟩);have hf:H1 s1.heap.objs.size=none:=I1.bD.fresh (Uo _);refine⟨.ref s1.heap.objs.size,upd H1 s1.heap.objs.size (.lst xs),I1.laid (t':=s1.toks) (λb u e=>Uk _ e) (Uo _) ?_,rfl,q _ hf⟩;exact⟨z,us,0,r,UB _ rfl⟩
end
abbrev Sp:=List V->Hp->VK->XK->Prop
abbrev By:=List Env->Hp->Uj->XK->Value->Uj->Prop
structure yn(P:UN)(w:World)(K:Ud)(mg:Str->Option Value)(base:Heap)(A:U6)(outer:List Env)(s:Uj)(H:Hp):Prop where
 frames:A.frames=some outer
 mod:Mod K mg base
 bs: ∀ b o,base.get? b=some o->s.heap.get? b=some o/\H b=none
 EJ:base.objs.size<=s.heap.objs.size
 mT:s.heap.FunFrames base outer
 IL: ∀ b∈Bv outer,H b=none
 bD:ka P w H s.heap
 bare:YX s.gens
noncomputable def CE(outer:List Env)(P:UN)(w:World)(H:Hp)(s:Uj)(Q:VK)(u:Value)(s':Uj):Prop :=
 ∃ v H',s'.os=s.os/\YX s'.gens/\Un (Bv outer) [] H H' s.heap s'.heap/\ka P w H' s'.heap/\RelV v u/\Q v H'
noncomputable def CR(CX:By)(outer:List Env)(P:UN)(w:World)(H:Hp)(s:Uj)(Q:VK)(E:XK)(r:Result)(s':Uj):Prop :=
 match r with
 | .ok (.ret u)=>CE outer P w H s Q u s'
 | .ok _=>False
 | .error e=>CX outer H s E e s'
structure lV(P:UN)(w:World)(K:Ud)(mg:Str->Option Value)(base:Heap)(CX:By)(k:Nat)(f:Addr)(fd:V0)(ps:List Str)(sp:Sp):Prop where
 len: ∀ vs H Q E,sp vs H Q E->vs.length=ps.length
 run: ∀(A:U6)(outer:List Env)(s:Uj)(H:Hp)(args:Args)(us:List Value)(vs:List V)(Q:VK)(E:XK),dP k A->yn P w K mg base A outer s H->ZD s fd args (ps.zip us)->Vals vs us->sp vs H Q E ->
  ZE (model P w) A (.call (.ref f) args) (CR CX outer P w H s Q E) s
theorem lV.imp{P:UN}{w:World}{K:Ud}{mg:Str->Option Value}{base:Heap}{CX:By}{k:Nat}{f:Addr}{fd:V0}{ps:List Str}{sp sp':Sp}(F:lV P w K mg base CX k f fd ps sp)
  (h: ∀ vs H Q E,sp' vs H Q E->sp vs H Q E):lV P w K mg base CX k f fd ps sp' :=
 ⟨λvs H Q E q=>F.len vs H Q E (h _ _ _ _ q),λA outer s H args us vs Q E hr he hb hv hs=>F.run A outer s H args us vs Q E hr he hb hv (h _ _ _ _ hs)⟩
theorem yn.in1{P:UN}{w:World}{K:Ud}{mg:Str->Option Value}{base:Heap}{A:U6}{outer:List Env}{s:Uj}{H:Hp}(e:yn P w K mg base A outer s H) :
  yn P w K mg base A.in1 outer s H:=⟨e.frames,e.mod,e.bs,e.EJ,e.mT,e.IL,e.bD,e.bare⟩
section
variable{X:Cx}{pins:List (Addr × Obj)}{σ :St}{H:Hp}{s s':Uj}
theorem Inv.RX(I:Inv X pins σ H s):yn X.prog X.w X.K X.mg X.base X.A X.stack s H :=
 ⟨I.ok.frames,I.ok.mod,I.bs,UO I.ok.EJ I.sz,I.stack,I.zr,I.bD,I.bare⟩
theorem Inv.after{Q:VK}{u:Value}(I:Inv X pins σ H s)(h:CE X.stack X.prog X.w H s Q u s'):EP X pins σ Q u s':=by
 obtain⟨v,H',os,bare,un,bD,r,q⟩:=h;obtain⟨hh,g,d,t,os'⟩:=s';obtain rfl:os'=s.os:=os;exact⟨v,H',I.call (h':=hh) (g':=g) (d':=d) (t':=t) (ch:=[]) un bD bare (λb z=>absurd z (by simp)),r,q⟩
end
noncomputable def zg(sp:Sp)(EH:List V)(E:XK)(t:TA):TE:=fun σ H Q=>t σ H λvs H1=>sp (vs++EH) H1 Q E
noncomputable def Binds(K:Ud)(fd:V0)(ps:List Str)(ds:List Value):Prop :=
 ∀(s:Uj)(us:List Value),K.In s.heap->(us++ds).length=ps.length->ZD s fd ⟨us,[]⟩ (ps.zip (us++ds))
theorem Binds.all{K:Ud}{fd:V0}{ps:List Str}(h: ∀ us:List Value,us.length=ps.length->WV fd ⟨us,[]⟩=pure (ps.zip us)):Binds K fd ps []:=λs us _ hl=>by
 rw[U3] at hl ⊢;exact .of_eq (h us hl)
noncomputable def Passes(CX:By)(X:Cx)(E:XK):Prop:= ∀(pins:List (Addr × Obj))(σ :St)(H:Hp)(s:Uj)(e:Value)(s':Uj),Inv X pins σ H s->CX X.stack H s E e s'->X.xe e s'
section
variable{X:Cx}{CX:By}{k:Nat}{f C:Addr}{fd:V0}{ps:List Str}{sp:Sp}{EH:List V}{ds:List Value}{E:XK}{x m:Str}{p pos apos:Pos}{e o:Expr}{es:List Expr}{ta:TE}{t:TA}
theorem Np{pins:List (Addr × Obj)}{σ :St}{H:Hp}{s:Uj}{Q:VK}{us:List Value}{vs:List V}(F:lV X.prog X.w X.K X.mg X.base CX k f fd ps sp)(hr:dP k X.A)(hb:Binds X.K fd ps ds)(hd:Vals EH ds)(hx:Passes CX X E)
  (I:Inv X pins σ H s) (r:Vals vs us) (h:sp (vs++EH) H Q E):wpAny (model X.prog X.w) X.A (call (.ref f) us) (EP X pins σ Q) X.xe s:=by
 have r2:Vals (vs++EH) (us++ds):=r.append hd;have hl:(us++ds).length=ps.length:=by rw[<- r2.length];exact F.len _ _ _ _ h
 refine wpAny_call (aaZ (F.run X.A X.stack s H ⟨us,[]⟩ (us++ds) (vs++EH) Q E hr I.RX (hb s us I.my hl) r2 h) λr s' hq=>?_);cases r with
 | error e=>exact hx pins σ H s e s' I hq
 | ok fl =>
  cases fl with
  | ret u=>exact I.after hq
  | next=>exact VR hq
  | brk=>exact VR hq
  | cont=>exact VR hq
theorem Gh(F:lV X.prog X.w X.K X.mg X.base CX k f fd ps sp)(hr:dP k X.A)(hg:Gl X x)(hm:X.mg x=some (.ref f))(hk:WN X.K (.ref f)=true)(hb:Binds X.K fd ps ds)(hd:Vals EH ds)(hx:Passes CX X E)
  (ha:PA X (e::es) t) (hdb:(x == ("__debug__" :Str))=false:=by decide) (he:U7 (e::es) X.env=(false,eval e X.env)::U7 es X.env:=by rfl) (hpl:(XI pos (U7 es X.env)).any (·.1)=false:=by rfl) :
  PE X (.Call (.Name x p) (e::es) [] pos) (zg sp EH E t):=by
 intro pins s σ H Q I h;refine YF (y0 I hg hm ?_ hdb);refine PySem.W.callWith_K (h₀ :=X.base) I.ok.mod.SU hk (cL (ha pos pins s σ H _ I h) λus s1 ⟨vs,H1,I1,r,q⟩=>⟨I1.my,?_⟩) he hpl;exact Np F hr hb hd hx I1 r q
structure Mk(K:Ud)(C f:Addr):Prop where
 makes:PySem.W.makesIn K C=true
 init:XM K (.ref C) "__init__" =some (some (.ref f))
 fn:abU K (.ref f)=true
 kp:WN K (.ref C)=true
end
section
variable{X:Cx}{CX:By}{k:Nat}{f C:Addr}{fd:V0}{ps ks:List Str}{sp:Sp}{E:XK}{x m:Str}{p pos apos kpos:Pos}{e o:Expr}{es:List Expr}{kws:List aat}{te ta:TE}{t tk:TA}{nm:Option Str}
structure Sv(K:Ud)(fd:V0)(ps ks:List Str)(g:List Value->List Value->List Value)(gV:List V->List V->List V):Prop where
 to: ∀(s:Uj)(us ws:List Value),K.In s.heap->(g us ws).length=ps.length->ZD s fd ⟨us,ks.zip ws⟩ (ps.zip (g us ws))
 rel: ∀{vs:List V}{us:List Value}{zs:List V}{ws:List Value},Vals vs us->Vals zs ws->Vals (gV vs zs) (g us ws)
variable{g:List Value->List Value->List Value}{gV:List V->List V->List V}
end
structure d9(N P:List Str)(sc:Scope):Prop where
 kind:sc.kind= .function
 co:sc.isCoroutine=false
 gen:sc.isGenerator=false
 nd:N.Nodup
 pre:N.take P.length=P
 par: ∀ x∈P,sc.names.lookup x=some .local\/sc.names.lookup x=some .cell
 NJ: ∀ y∈sc.names,y.2≠ .free
theorem rM{kindOf:Str->Option WW}{x:Str}: ∀{binds:List (Str × Value)}{m:Str->Option Value},(∀ v,(x,v) ∉ binds)->bindL kindOf binds m x=m x
 | [],_,_=>rfl
 | (n,v)::r,m,h=>by
  unfold bindL;rw[rM λw hw=>h w (Uz _ hw)];split
  . have:x≠n:=by rintro rfl;exact h v Uv
    simp[this]
  . rfl
theorem rP{kindOf:Str->Option WW}{x:Str}: ∀{binds:List (Str × Value)}{m:Str->Option Value},(∀ v,(x,v) ∉ binds)->bindC kindOf binds m x=m x
 | [],_,_=>rfl
 | (n,v)::r,m,h=>by
  unfold bindC;rw[rP λw hw=>h w (Uz _ hw)];split
  . rfl
  . have:x≠n:=by rintro rfl;exact h v Uv
    simp[this]
theorem rL{kindOf:Str->Option WW}{x:Str}{v:Value}: ∀{P:List Str}{vs:List Value}{i:Nat}{m:Str->Option Value},P.Nodup->P[i]?=some x->vs[i]?=some v->kindOf x=some .local ->
  bindL kindOf (P.zip vs) m x=some v
 | [],_,_,_,_,h,_,_=>by simp at h
 | _::_,[],_,_,_,_,h,_=>by simp at h
 | p::P,w::vs,0,m,nd,h1,h2,hk=>by
  simp at h1 h2;subst h1;subst h2;show bindL kindOf ((p,w)::P.zip vs) m p=_;unfold bindL;rw[rM λv hv=>(Wz.mp nd).1 (ZU hv).1,if_pos hk];simp
 | p::P,w::vs,i+1,m,nd,h1,h2,hk=>by
  show bindL kindOf ((p,w)::P.zip vs) m x=_;unfold bindL;exact rL (i:=i) (Wz.mp nd).2 (by simpa using h1) (by simpa using h2) hk
theorem rV{kindOf:Str->Option WW}{x:Str}{v:Value}: ∀{P:List Str}{vs:List Value}{i:Nat}{m:Str->Option Value},P.Nodup->P[i]?=some x->vs[i]?=some v->kindOf x≠some .local ->
  bindC kindOf (P.zip vs) m x=some v
 | [],_,_,_,_,h,_,_=>by simp at h
 | _::_,[],_,_,_,_,h,_=>by simp at h
 | p::P,w::vs,0,m,nd,h1,h2,hk=>by
  simp at h1 h2;subst h1;subst h2;show bindC kindOf ((p,w)::P.zip vs) m p=_;unfold bindC;rw[rP λv hv=>(Wz.mp nd).1 (ZU hv).1,if_neg hk];simp
 | p::P,w::vs,i+1,m,nd,h1,h2,hk=>by
  show bindC kindOf ((p,w)::P.zip vs) m x=_;unfold bindC;exact rV (i:=i) (Wz.mp nd).2 (by simpa using h1) (by simpa using h2) hk
noncomputable def start(N:List Str)(vs:List V):St:=vs.map some++Up (N.length - vs.length) none
noncomputable def j5(CX:By)(P:UN)(w:World)(K:Ud)(mg:Str->Option Value)(base:Heap)(N:List Str)(qual:Str)(scope:Scope)(f:Addr)(cd:Value)(A:U6)(outer:List Env)(s:Uj)(H:Hp)(E:XK):Cx where
 prog:=P
 w:=w
 K:=K
 mg:=mg
 base:=base
 A:=A.deeper (YG qual scope s.heap.objs.size f cd)
 N:=N
 s₀ :=s
 H₀ :=H
 env:=YG qual scope s.heap.objs.size f cd
 outer:=outer
 stack:=YG qual scope s.heap.objs.size f cd::outer
 ex:=[]
 calm:=true
 fn:=λ_=>true
 pn:=[]
 xe:=λe s'=>wpAny (model P w) (A.deeper (YG qual scope s.heap.objs.size f cd)) (leaving (YG qual scope s.heap.objs.size f cd) e) (λ_ s''=>CX outer H s E e s'') (λe' s''=>CX outer H s E e' s'') s'
theorem vS{sc:Scope}{n:Nat}{x:Str}(h:sc.names.lookup x=some .cell): ∃ c,(WA n sc.names []).lookup x=some c:=by
 have q:=XN sc.names n [] (.inl h);exact Xq.mp q
theorem Br{CX:By}{P:UN}{w:World}{K:Ud}{mg:Str->Option Value}{base:Heap}{N ps:List Str}{qual:Str}{scope:Scope}{f:Addr}{cd:Value}{A:U6}{outer:List Env}{s s1:Uj}{H:Hp}{E:XK}{us:List Value}{vs:List V}
  (S:d9 N ps scope) (hd:A.handled=none) (e0:yn P w K mg base A outer s H) (hl:vs.length=ps.length) (r:Vals vs us)
  (x:InCallC s s.heap.objs.size (bindL (YG qual scope s.heap.objs.size f cd).kindOf (ps.zip us) λ_=>none) (WA (s.heap.objs.size+1) scope.names []) (bindC (YG qual scope s.heap.objs.size f cd).kindOf (ps.zip us) λ_=>none) s1) :
  Inv (j5 CX P w K mg base N qual scope f cd A outer s H E) [] (start N vs) H s1:=by
 have hpl:ps.length<=N.length:=by have:=congrArg abv S.pre;rw[Vo] at this;omega
 obtain⟨h1,tk,rfl,hk⟩:=x.done;have noA: ∀ b:Addr,b ∉ (j5 CX P w K mg base N qual scope f cd A outer s H E).ex:=λb z=>absurd (show b∈([]:List Addr) from z) (by simp);refine⟨⟨e0.mod,S.kind,rfl,rfl,Uo _,λy z c h1 h2=>?_,λy hy=>?_,λy c _ h=>?_,λ_=>hd,Around.frames_deeper e0.frames,.inr ⟨rfl,rfl⟩,λb z=>absurd z (noA b),e0.bs,e0.EJ,λb _ _=>noA b,λb z=>absurd z (noA b),e0.mT,e0.IL⟩,
  rfl,e0.bare,Un.kept hk,⟨_,x.toInCall.ns,λi y v h1 h2 h3=>?_⟩,λy c h=>⟨_,x.cell y c h⟩,e0.bD.fresh (Uo _),λy c h=>?_,λp hp=>absurd (show p∈([]:List (Addr × Obj)) from hp) (by simp),e0.bD.kept hk,?_⟩
 . exact name_of_addr x.apart (WK h1) (WK h2)
 . have hy:scope.names.lookup y=some .cell\/scope.names.lookup y=some .free:=hy;rcases hy with hy | hy
   . exact vS hy
   . exact absurd rfl (S.NJ _ (WK hy))
 . exact WC (x.above y c (WK h))
 . have hi:i < vs.length:=by
    unfold start at h2;by_cases hi:i < vs.length
    . exact hi
    . rw[UM (by simpa using hi)] at h2;rw[WO] at h2;split at h2<;>cases h2
   have ha:vs[i]?=some v:=by
    unfold start at h2;rw[U4 (by simpa using hi),UA] at h2;cases e:vs[i]? with
    | none=>rw[e] at h2;cases h2
    | some a=>rw[e] at h2;cases h2;rfl
   obtain⟨u,hu,rv⟩:=r.get ha;have hp:ps[i]?=some y:=by
    rw[<- S.pre,List.getElem?_take_of_lt (by omega)];exact h1
   have ndP:ps.Nodup:=by rw[<- S.pre];exact S.nd.sublist (List.take_sublist _ _)
   refine⟨u,rv,?_⟩;rcases S.par y (Uq hp) with k | k
   . exact .inl ⟨k,rL ndP hp hu k⟩
   . obtain⟨c,e⟩:=vS (n:=s.heap.objs.size+1) k;refine .inr ⟨.inl k,c,e,?_⟩;have q:=x.cell y c e;rw[rV ndP hp hu (by show scope.names.lookup y≠_;rw[k];decide)] at q;exact q
 . exact e0.bD.fresh (WC (x.above y c (WK h)))
 . unfold start;show _=N.length;rw[Uu,Ui,Z1];omega
theorem QN{CX:By}{P:UN}{w:World}{K:Ud}{mg:Str->Option Value}{base:Heap}{k:Nat}{f:Addr}{name qual:Str}{params:Arguments}{body:List Stmt}{scope:Scope}{dV kV doc pm cdv ct oc:Value}{an od:Option Addr}
  {osl:Array (Option Value)} {N ps:List Str} {sp:Sp} (lk:K.lookup f=some ⟨oc,od,.func (Vu name qual params body scope dV kV doc pm an cdv ct),osl⟩) (hcd:Yk K cdv qual=true) (S:d9 N ps scope)
  (len: ∀ vs H Q E,sp vs H Q E->vs.length=ps.length)
  (hbody: ∀(A:U6)(outer:List Env)(s:Uj)(H:Hp)(vs:List V)(Q:VK)(E:XK),dP k (A.deeper (YG qual scope s.heap.objs.size f cdv))->sp vs H Q E ->
   ∃ t,xw (j5 CX P w K mg base N qual scope f cdv A outer s H E) body t/\t { nx:=λ_ H'=>Q .non H',rt:=Q } (start N vs) H) :
  lV P w K mg base CX (k+1) f (Vu name qual params body scope dV kV doc pm an cdv ct) ps sp:=by
 refine⟨len,λA outer s H args us vs Q E hr e0 hb r hsp=>?_⟩;have hl:=len _ _ _ _ hsp;have KX:K.In s.heap:=e0.mod.SU.keeps λb o e=>(e0.bs b o e).1;have lim:s.heap.NoLimit:=e0.mod.nolimit.keeps λb o e=>(e0.bs b o e).1;have hkind: ∀ y∈ps.zip us,scope.names.lookup y.1=some .local\/(scope.names.lookup y.1=some .cell/\((WA (s.heap.objs.size+1) scope.names []).lookup y.1).isSome=true):=λ⟨n,v⟩ hy=>by
  rcases S.par n (ZU hy).1 with q | q
  . exact .inl q
  . exact .inr ⟨q,XN _ _ _ (.inl q)⟩
 refine codeAny_call_function hr.depth (KX _ _ lk) rfl S.co S.gen rfl (PySem.W.codeRec_of KX hcd) (hb _ _ _ _ ?_);refine wpAny_newFunctionEnv_cells S.kind hkind λenv he s1 x=>?_;subst he;refine⟨lim.keeps x.toInCall.keep,codeAny_func ?_⟩;obtain⟨t,ht,hq⟩:=hbody A outer s H vs Q E (hr.deeper _) hsp;have I:Inv (j5 CX P w K mg base N qual scope f cdv A outer s H E) [] (start N vs) H s1:=Br S hr.hd e0 hl r x;refine U8 (ht [] s1 (start N vs) H _ I hq) (λfl s' hs=>?_) λe s' hs=>hs;have fin: ∀{σ':St}{H':Hp}{v:V}{u:Value},Inv (j5 CX P w K mg base N qual scope f cdv A outer s H E) [] σ' H' s'->RelV v u->Q v H'->CE outer P w H s Q u s' :=
  λ{σ' H' v u} J rv q=>⟨v,H',J.os,J.bare,J.base,J.bD,rv,q⟩
 cases fl with
 | ret u =>
  obtain ⟨v, σ',H',J,rv,q⟩:=hs
  exact fin J rv q
 | next =>
  obtain ⟨σ',H',J,q⟩:=hs
  exact fin (v:=V.non) (u:=Wl) J rfl q
 | brk =>
  obtain⟨_,_,_,q⟩:=hs
  exact VR q
 | cont =>
  obtain⟨_,_,_,q⟩:=hs
  exact VR q
section
variable{X:Cx}{x:Str}{p pos:Pos}{e:Expr}{es:List Expr}{t:TA}{id T:String}{r:List V->Hp->VK->Prop}
noncomputable def Lc(r:List V->Hp->VK->Prop)(t:TA):TE:=fun σ H Q=>t σ H λvs H1=>r vs H1 Q
theorem Cu(hc:aV X (.builtin id) r)(hg:Gl X x)(hm:X.mg x=none)(hv:VA x=some (.builtin id))(ha:PA X (e::es) t)(hn:x≠ "__name__" :=by decide)(hdb:(x == ("__debug__" :Str))=false:=by decide)
  (he:U7 (e::es) X.env=(false,eval e X.env)::U7 es X.env:=by rfl) (hpl:(XI pos (U7 es X.env)).any (·.1)=false:=by rfl):PE X (.Call (.Name x p) (e::es) [] pos) (Lc r t):=by
 intro pins s σ H Q I h;refine YF (kM I hg hm hv ?_ hn hdb);exact PyProof.Rows.callWith_builtin1 (cL (ha pos pins s σ H _ I h) λus s1 ⟨vs,H1,I1,r1,q1⟩=>hc pins s1 σ H1 vs us Q I1 r1 q1) he hpl
theorem Ac(hc:aV X (.type T) r)(hg:Gl X x)(hm:X.mg x=none)(hv:VA x=some (.type T))(ha:PA X (e::es) t)(hn:x≠ "__name__" :=by decide)(hdb:(x == ("__debug__" :Str))=false:=by decide)
  (he:U7 (e::es) X.env=(false,eval e X.env)::U7 es X.env:=by rfl) (hpl:(XI pos (U7 es X.env)).any (·.1)=false:=by rfl):PE X (.Call (.Name x p) (e::es) [] pos) (Lc r t):=by
 intro pins s σ H Q I h;refine YF (kM I hg hm hv ?_ hn hdb);exact VO (cL (ha pos pins s σ H _ I h) λus s1 ⟨vs,H1,I1,r1,q1⟩=>hc pins s1 σ H1 vs us Q I1 r1 q1) he hpl
end
end L2
namespace HT
open PySem PyProof.Rows
section
variable{prog:UN}{w:World}{A:U6}{E:Value->Uj->Prop}{s:Uj}
theorem HD{t b:Addr}{vs ws:List Value}{Q:Value->Uj->Prop}(ht:IsTup s.heap t vs.toArray)(hb:IsTup s.heap b ws.toArray)(hv:vs≠[])
  (h1:ws=[]->Q (.ref t) s) (h2:ws≠[]->Q (.ref s.heap.objs.size) { s with heap:=s.heap.push { cls:= .type "tuple",data:= .seq (vs++ws).toArray } })
  (hsz:vs.length+ws.length<=sizeLine):wpAny (model prog w) A (VD .Add (.ref t) (.ref b)) Q E s:=by
 obtain⟨⟨cls,dd,data,sl⟩,ho,hc,n,hd⟩:=id ht;obtain⟨⟨cls2,dd2,data2,sl2⟩,ho2,hc2,n2,hd2⟩:=id hb;simp only at hc hd hc2 hd2;subst hc hd hc2 hd2;have e:vs.toArray++ws.toArray=(vs++ws).toArray:=by simp
 by_cases hw:ws=[]
 . exact aa0 ⟨_,ho,rfl⟩ ⟨_,ho2,rfl⟩ Zo aaF XO XE (Xr _ _)
    (tuple_addW1 t b vs.toArray ws.toArray n n2 dd dd2 sl sl2 (by simpa using hv) (by simp[hw])) ⟨ho,ho2,h1 hw⟩
 . refine aa0 ⟨_,ho,rfl⟩ ⟨_,ho2,rfl⟩ Zo aaF XO XE (Xr _ _)
    (tuple_addW2 t b vs.toArray ws.toArray n n2 dd dd2 sl sl2 (by simpa using hv) (by simpa using hw) (by rw[Uw,Uw];exact hsz)) ⟨ho,ho2,?_⟩
   rw[e];exact h2 hw
noncomputable def df(n d:Nat):Option Int->Nat
 | none=>d
 | some v=>if v < 0 then(v+(n:Int)).toNat else min v.toNat n
theorem lu(n d:Nat):df n d none=d:=rfl
theorem oh(n d k:Nat):df n d (some (k:Int))=min k n:=by
 show(if (k:Int) < 0 then((k:Int)+(n:Int)).toNat else min (k:Int).toNat n)=min k n;rw[if_neg (by omega),Vr]
theorem Nr(n d:Nat)(hd:d<=n)(o:Option Int):df n d o<=n:=by
 cases o with
 | none=>exact hd
 | some v =>
  show(if v < 0 then(v+(n:Int)).toNat else min v.toNat n)<=n
  by_cases hv:v < 0
  . rw[if_pos hv];omega
  . rw[if_neg hv];exact X4 _ _
theorem zA(v:Int)(n d:Nat):(if v < 0 then max (v+(n:Int)) 0 else min v (n:Int))=((df n d (some v):Nat):Int):=by
 show(if v < 0 then max (v+(n:Int)) 0 else min v (n:Int))=(((if v < 0 then(v+(n:Int)).toNat else min v.toNat n):Nat):Int)
 by_cases hv:v < 0
 . simp only[if_pos hv];omega
 . simp only[if_neg hv];omega
theorem xj(lo hi:Option Int)(n:Nat):Xj lo hi 1 (n:Int)=(((df n 0 lo:Nat):Int),((df n n hi:Nat):Int)):=by
 have h1: ¬ ((1:Int) < 0):=by omega
 unfold Xj;simp only[h1,if_false];refine Prod.ext ?_ ?_
 . cases lo with
   | none=>rfl
   | some v=>exact zA v n 0
 . cases hi with
   | none=>rfl
   | some v=>exact zA v n n
theorem wZ(i j:Nat):Ww (i:Int) (j:Int) 1=j - i:=by
 unfold Ww;have h1:(1:Int) > 0:=by omega
 simp only[h1,if_true,Int.ediv_one];split<;>omega
theorem qe{v:Value}{o:Option Int}{Q:Option Int->Uj->Prop}(p:ZF v o)(h:Q o s):wpAny (model prog w) A (Builtin.Slice.slicePartIndex v) Q E s:=by
 cases p with
 | none=>exact slicePart_none h
 | int i t=>exact slicePart_int h
theorem gZ{sl:Addr}{vl vu:Value}{lo hi:Option Int}{n:Nat}{Q:Int × Int × Nat->Uj->Prop}(hs:s.heap.IsSliceOf sl vl vu .none)(pl:ZF vl lo)(pu:ZF vu hi)
  (h:Q (((df n 0 lo:Nat):Int),1,df n n hi - df n 0 lo) s):wpAny (model prog w) A (YH (.ref sl) (pure (n:Int))) Q E s:=by
 obtain⟨os,hos,hcs,hds⟩:=id hs;unfold YH Builtin.Slice.sliceFields;refine Ue (Ue (VF hos hds (x:=vl) rfl (Ue (VF hos hds (x:=vu) rfl (Ue (VF hos hds (x:= .none) rfl (Us ?_)))))));refine Ue (slicePart_none ?_);show wpAny _ _ (if ((1:Int) == 0)=true then _ else _) _ _ s;rw[if_neg (by decide)];refine Ue (qe pl (Ue (qe pu (Ue (Us ?_)))));show wpAny _ _ (match Xj lo hi 1 (n:Int) with | (lo,hi)=>pure (lo,(1:Int),Ww lo hi 1)) _ _ s;rw[xj lo hi n];show wpAny _ _ (pure (((df n 0 lo:Nat):Int),(1:Int),Ww ((df n 0 lo:Nat):Int) ((df n n hi:Nat):Int) 1)) _ _ s;rw[wZ];exact Us h
theorem BI(xs:Array Value)(i k:Nat):((Vn k).filterMap λ(m:Nat)=>xs[((i:Int)+(m:Int)*1).toNat]?).toArray=((xs.toList.drop i).take k).toArray:=by
 have e:(λ(m:Nat)=>xs[((i:Int)+(m:Int)*1).toNat]?)=λm=>xs[i+m]?:=by
  funext m
  have:((i:Int)+(m:Int)*1).toNat=i+m:=by omega
  rw[this]
 rw[e];have:=pick_run xs i k;rw[List.filterMap_map] at this;have e2:((λx=>xs[x]?) ∘ λx=>i+x)=λm=>xs[i+m]?:=rfl;rw[e2] at this;rw [this]
theorem lU {t sl : Addr} {items : Array Value} {vl vu : Value} {lo hi : Option Int} {Q : Value -> Uj -> Prop} (ht : IsTup s.heap t items) (hs : s.heap.IsSliceOf sl vl vu .none) (pl : ZF vl lo) (pu : ZF vu hi)
    (hw : ¬ (df items.size 0 lo = 0 /\ df items.size items.size hi = items.size))
    (h : Q (.ref s.heap.objs.size) { s with heap := s.heap.push { cls := .type "tuple", data := .seq ((items.toList.drop (df items.size 0 lo)).take (df items.size items.size hi - df items.size 0 lo)).toArray } })
    (hsz : items.size <= sizeLine) : wpAny (model prog w) A (Yr (.ref t) (.ref sl)) Q E s := by
  have htake : sizeOk (.seq ((items.toList.drop (df items.size 0 lo)).take (df items.size items.size hi - df items.size 0 lo)).toArray) := by
    show ((items.toList.drop (df items.size 0 lo)).take (df items.size items.size hi - df items.size 0 lo)).toArray.size <= sizeLine;rw [Uw, Vo, V1, VX];omega
  have hj : df items.size items.size hi <= items.size := Nr _ _ (Uo _) hi;obtain ⟨os, hos, hcs, hds⟩ := id hs;have hTs : s.TypeIs (.ref sl) "slice" := ⟨os, hos, hcs⟩
  unfold Yr
  try with_reducible refine VP ?_
  first | refine Ue (Us ?_) | skip
  refine Ue (wpAny_sequenceKey ht.typeIs (by decide) ?_);refine Ue (VN (name := UC "__getitem__") ht.typeIs Vi
    (V2 Vi ht.typeIs aaw ?_ (aaN _ _)))
  show wpAny _ _ (YI (.ref t) >>= _) _ _ s;refine Ue (tupleItemsOf_ ht ?_);refine Ue (Xh hTs ?_);rw [if_pos (by decide)];refine Ue (gZ hs pl pu ?_);have hno : ¬ ((((df items.size 0 lo : Nat) : Int) == 0 && (1 : Int) == 1 && (df items.size items.size hi - df items.size 0 lo) == items.size) = true) := by
    intro q;rw [UD, UD] at q;have q1 : ((df items.size 0 lo : Nat) : Int) = 0 := eq_of_beq q.1.1;have q2 : df items.size items.size hi - df items.size 0 lo = items.size := eq_of_beq q.2;exact hw ⟨by omega, by omega⟩
  show wpAny _ _ (if (((df items.size 0 lo : Nat) : Int) == 0 && (1 : Int) == 1 && (df items.size items.size hi - df items.size 0 lo) == items.size) = true then _ else _) _ _ s;rw [if_neg hno, BI]
  first
    | exact Ue (m := VI _) (VG (Us ⟨_, rfl, Us h⟩) htake)
    | exact Ue (m := VI _) (VG (Ue (Us (Us ⟨_, rfl, Us h⟩))) htake)
    | exact Ue (Ue (m := VI _) (VG (Us (Us ⟨_, rfl, Us h⟩)) htake))
    | exact Ue (Ue (m := VI _) (VG (Us ⟨_, rfl, Us h⟩) htake))
end
end HT
namespace L2
open PySem PySem.Spec PyProof.Rows
abbrev TO:=St->Hp->(Option Int->Hp->Prop)->Prop
noncomputable def PO(X:Cx)(e:Option Expr)(t:TO):Prop :=
 ∀(pins:List (Addr × Obj))(s:Uj)(σ :St)(H:Hp)(Q:Option Int->Hp->Prop),Inv X pins σ H s->t σ H Q ->
  wpAny (model X.prog X.w) X.A (evalPart e X.env) (λu s'=> ∃ o H',Inv X pins σ H' s'/\ZF u o/\Q o H') X.xe s
noncomputable def yx:TO:=λ_ H Q=>Q none H
noncomputable def Iy(t:TE):TO:=fun σ H Q=>t σ H λx H1=> ∃ i,x= .int i/\Q (some i) H1
section
variable{X:Cx}{e:Expr}{te:TE}{lo hi:Option Expr}{tl th:TO}{pos p2:Pos}
theorem FH:PO X none yx:=by
 intro pins s σ H Q I h;rw[evalPart_none];exact Us ⟨none,H,I,.none,h⟩
theorem Fs(h:PE X e te):PO X (some e) (Iy te):=by
 intro pins s σ H Q I hw;rw[evalPart_some];refine cL (h pins s σ H _ I hw) λu s1 ⟨x,H1,I1,r1,q1⟩=>?_;obtain⟨i,rfl,q⟩:=q1;obtain⟨t,rfl⟩:=r1;exact⟨some i,H1,I1,.int i t,q⟩
noncomputable def EK(X:Cx)(r:V->Option Int->Option Int->Hp->VK->Prop):Prop :=
 ∀(pins:List (Addr × Obj))(s:Uj)(σ :St)(H:Hp)(x:V)(v vl vu:Value)(lo hi:Option Int)(sl:Addr)(Q:VK),Inv X pins σ H s->RelV x v->s.heap.IsSliceOf sl vl vu .none->ZF vl lo->ZF vu hi->r x lo hi H Q ->
  ∃ T id,typeLookup (.type T) "__getitem__" =pure (some (.builtin id))/\s.TypeIs v T/\wpAny (model X.prog X.w) X.A (Yr v (.ref sl)) (EP X pins σ Q) X.xe s
theorem EK.or{r r':V->Option Int->Option Int->Hp->VK->Prop}(h:EK X r)(h':EK X r'):EK X (λx lo hi H Q=>r x lo hi H Q\/r' x lo hi H Q):=by
 intro pins s σ H x v vl vu lo hi sl Q I rx hs pl pu q;rcases q with q | q
 . exact h pins s σ H x v vl vu lo hi sl Q I rx hs pl pu q
 . exact h' pins s σ H x v vl vu lo hi sl Q I rx hs pl pu q
noncomputable def Tz(r:V->Option Int->Option Int->Hp->VK->Prop)(te:TE)(tl th:TO):TE:=fun σ H Q=>te σ H λx H1=>tl σ H1 λl H2=>th σ H2 λu H3=>r x l u H3 Q
theorem Dw{r:V->Option Int->Option Int->Hp->VK->Prop}(hr:EK X r)(he:PE X e te)(hl:PO X lo tl)(hu:PO X hi th):PE X (.Subscript e (.Slice lo hi none p2) pos) (Tz r te tl th):=by
 intro pins s σ H Q I h;refine Subscript_ (cL (he pins s σ H _ I h) λv s1 ⟨x,H1,I1,r1,q1⟩=>?_);refine wpAny_Slice (cL (hl pins s1 σ H1 _ I1 q1) λvl s2 ⟨l,H2,I2,pl,q2⟩=>cL (hu pins s2 σ H2 _ I2 q2) λvu s3 ⟨u,H3,I3,pu,q3⟩=>?_);rw[evalPart_none];refine Us ?_;have I4:Inv X pins σ H3 { s3 with heap:=s3.heap.push { cls:= .type "slice",data:= .fields #[vl,vu,.none] } }:=I3.kept (t':=s3.toks) λb ob q=>Uk _ q;obtain⟨T,id,hT,ht,hg⟩:=hr pins { s3 with heap:=s3.heap.push { cls:= .type "slice",data:= .fields #[vl,vu,.none] } } σ H3 x v vl vu l u s3.heap.objs.size Q I4 r1 (ab1 ..) pl pu q3;show wpAny (model X.prog X.w) X.A (Zc e (.Slice lo hi none p2) v (.ref s3.heap.objs.size)) (EP X pins σ Q) X.xe { s3 with heap:=s3.heap.push { cls:= .type "slice",data:= .fields #[vl,vu,.none] } };exact tail_any (ops:=[.ref s3.heap.objs.size,v]) ht hT hg (by with_unfolding_all rfl)
noncomputable def nV(xs:List V)(lo hi:Option Int):List V:=(xs.drop (HT.df xs.length 0 lo)).take (HT.df xs.length xs.length hi - HT.df xs.length 0 lo)
theorem nQ(xs:List V)(lo hi:Option Int):(nV xs lo hi).length<=xs.length:=by
 unfold nV;rw[Vo,V1];omega
noncomputable def Ra(K:Ud):V->Option Int->Option Int->Hp->VK->Prop:=λx lo hi H Q=> ∃ a xs,x= .ref a/\fM K H a xs /\
 ¬ (HT.df xs.length 0 lo=0/\HT.df xs.length xs.length hi=xs.length)/\ ∀ p,H p=none->Q (.ref p) (upd H p (.tup (nV xs lo hi)))
theorem M6:EK X (Ra X.K):=by
 intro pins s σ H x v vl vu lo hi sl Q I rx hs pl pu h;obtain⟨a,xs,rfl,hx,hw,q⟩:=h;cases rx;obtain⟨aj,r,ht,hz⟩:=I.tuple hx;have hlen:aj.toArray.size=xs.length:=by rw[Uw];exact r.length.symm
 refine⟨"tuple",_,Vi.lookup,ht.typeIs,?_⟩;refine HT.lU ht hs pl pu (by rw[hlen];exact hw) ?_ (by rw[hlen];exact hz);rw[hlen];refine⟨.ref s.heap.objs.size,_,I.laid (t':=s.toks) (o:= .tup (nV xs lo hi)) (λb ob q=>Uk _ q) (Uo _) ?_,rfl,q _ (I.bD.fresh (Uo _))⟩;exact⟨UO (nQ xs lo hi) hz,_,(r.drop (HT.df xs.length 0 lo)).take (HT.df xs.length xs.length hi - HT.df xs.length 0 lo),qQ.new _ _⟩
noncomputable def IM(K:Ud):R2:=λx y H Q=> ∃ a b xs ys,x= .ref a/\y= .ref b/\fM K H a xs/\fM K H b ys/\xs≠[]/\xs.length+ys.length<=sizeLine /\
 (ys=[]->Q (.ref a) H)/\(ys≠[]-> ∀ p,H p=none->Q (.ref p) (upd H p (.tup (xs++ys))))
theorem Vals.ox{xs:List V}{us:List Value}(r:Vals xs us):us=[]↔xs=[]:=by
 cases r with
 | nil=>simp
 | cons _ _=>simp
theorem Ic:dw X (VD .Add) (IM X.K):=by
 intro pins s σ H x y v u Q I rx ry h;obtain⟨a,b,xs,ys,rfl,rfl,ha,hb,hx,hz,q1,q2⟩:=h;cases rx;cases ry;obtain⟨aj,r1,p1,_⟩:=I.tuple ha;obtain⟨its2,r2,p2,_⟩:=I.tuple hb;refine HT.HD p1 p2 (λz=>hx (r1.ox.mp z)) (λz=>⟨.ref a,H,I,rfl,q1 (r2.ox.mp z)⟩) (λz=>?_) (by rw[<- r1.length,<- r2.length];exact hz);refine⟨.ref s.heap.objs.size,_,I.laid (t':=s.toks) (o:= .tup (xs++ys)) (λb ob q=>Uk _ q) (Uo _) ?_,rfl,q2 (λw=>z (r2.ox.mpr w)) _ (I.bD.fresh (Uo _))⟩;exact⟨by rw[Uu];exact hz,_,r1.append r2,qQ.new _ _⟩
end
noncomputable def qw(n:Nat)(i:Int):Option Nat:=if 0<=i then(if i < n then some i.toNat else none) else if -(n:Int)<=i then some (i+n).toNat else none
noncomputable def dS{α :Type}(xs:List α)(i:Int):Option α :=(qw xs.length i).bind λj=>xs[j]?
theorem yv{n:Nat}{i:Int}{j:Nat}(h:qw n i=some j):seqIndex? i n=some j/\j < n/\ -(n:Int)<=i/\i < n:=by
 unfold qw at h;by_cases h0:0<=i
 . rw[if_pos h0] at h;by_cases h1:i < n
   . rw[if_pos h1] at h;have e:i.toNat=j:=Vg h;exact⟨by rw[abw h0 h1,e],by omega,by omega,h1⟩
   . rw[if_neg h1] at h;cases h
 . rw[if_neg h0] at h;by_cases h1: -(n:Int)<=i
   . rw[if_pos h1] at h;have e:(i+n).toNat=j:=Vg h;exact⟨by rw[aa1 (by omega) h1,e],by omega,h1,by omega⟩
   . rw[if_neg h1] at h;cases h
theorem tX{α :Type}{xs:List α}{i:Int}{v: α}(h:dS xs i=some v): ∃ j,seqIndex? i xs.length=some j/\xs[j]?=some v/\j < xs.length/\ -(xs.length:Int)<=i/\i < xs.length:=by
 unfold dS at h;cases e:qw xs.length i with
 | none=>rw[e] at h;cases h
 | some j =>
  rw[e] at h
  obtain⟨h1,h2,h3,h4⟩:=yv e
  exact⟨j,h1,h,h2,h3,h4⟩
theorem cZ{α :Type}{xs:List α}{j:Nat}{v: α}(h:xs[j]?=some v):dS xs (j:Int)=some v:=by
 have hj:j < xs.length:=(Uh.mp h).1;have e:qw xs.length (j:Int)=some j:=by
  unfold qw;rw[if_pos (by omega),if_pos (by omega)];simp
 unfold dS;rw[e];exact h
noncomputable def uj(b:Expr):Prop:= ∀ o i,YZ b false o i=operate [o,i] (Yr o i)
noncomputable def zU(X:Cx)(r:R2):Prop :=
 ∀(value slice:Expr)(pins:List (Addr × Obj))(s:Uj)(σ :St)(H:Hp)(x y:V)(v u:Value)(Q:VK),Inv X pins σ H s->RelV x v->RelV y u->r x y H Q ->
  YZ slice false v u=operate [v,u] (Yr v u)->wpAny (model X.prog X.w) X.A (Zc value slice v u) (EP X pins σ Q) X.xe s
noncomputable def Jg(X:Cx)(id:String)(r:V->List V->Hp->VK->Prop):Prop :=
 ∀(pins:List (Addr × Obj))(s:Uj)(σ :St)(H:Hp)(x:V)(xs:List V)(v:Value)(us:List Value)(Q:VK),Inv X pins σ H s->RelV x v->Vals xs us->r x xs H Q ->
  wpAny (model X.prog X.w) X.A (call (.builtin id) (v::us)) (EP X pins σ Q) X.xe s
section
variable{X:Cx}{a b:Expr}{ta tb:TE}{pos:Pos}
theorem zU.or{r r':R2}(h:zU X r)(h':zU X r'):zU X (λx y H Q=>r x y H Q\/r' x y H Q):=by
 intro value slice pins s σ H x y v u Q I rx ry q hs;rcases q with q | q
 . exact h value slice pins s σ H x y v u Q I rx ry q hs
 . exact h' value slice pins s σ H x y v u Q I rx ry q hs
theorem O5{r:R2}(hr:zU X r)(ha:PE X a ta)(hb:PE X b tb)(hs:uj b):PE X (.Subscript a b pos) (HK r ta tb):=by
 intro pins s σ H Q I h;exact Subscript_ (Nc ha hb I h λv u s2 x y H2 I2 rx ry q=>hr a b pins s2 σ H2 x y v u Q I2 rx ry q (hs _ _))
noncomputable def PZ(K:Ud):R2:=λx y H Q=> ∃ p xs i v,x= .ref p/\y= .int i/\iS K H p xs/\dS xs i=some v/\Q v H
noncomputable def Ox(K:Ud):R2:=λx y H Q=> ∃ p xs i v,x= .ref p/\y= .int i/\fM K H p xs/\dS xs i=some v/\Q v H
noncomputable def PY:R2:=λx y H Q=> ∃ z i c,x= .str z/\y= .int i/\z.length<=sizeLine/\dS z.cps.toList i=some c/\Q (.str ⟨#[c]⟩) H
theorem FD:zU X (PZ X.K):=by
 intro value slice pins s σ H x y v u Q I rx ry h hs;obtain⟨p,xs,i,z,rfl,rfl,hq,he,q⟩:=h;cases rx;obtain⟨t,rfl⟩:=ry;obtain⟨aj,r,pl,hz⟩:=I.list hq;obtain⟨j,h1,h2,h3,h4,h5⟩:=tX he;obtain⟨w,ew,rw'⟩:=r.get h2;have hl:=r.length;have hn:=ny;have fin:EP X pins σ Q w s:=⟨z,H,I,rw',q⟩
 by_cases h0:0<=i
 . have hj:i.toNat=j:=by
    rw[abw h0 h5] at h1;exact Vg h1
   exact item_listR pl.isList h0 (by omega) (by rw[hj];simpa using ew) fin hs
 . have hj:(i+(aj.toArray.size:Int)).toNat=j:=by
    rw[aa1 (by omega) h4] at h1;rw[Uw,<- hl];exact Vg h1
   exact ZG (x:=w) pl.isList.typeIs slot_list_getitem.lookup
    (wpAny_getItem_list_neg (Q:=λr s'=>r=w/\EP X pins σ Q r s') pl.isList (by omega) (by rw[Uw]<;>omega) (by omega) (by rw[hj];simpa using ew) ⟨rfl,fin⟩) hs
theorem Kb:zU X (Ox X.K):=by
 intro value slice pins s σ H x y v u Q I rx ry h hs;obtain⟨p,xs,i,z,rfl,rfl,hq,he,q⟩:=h;cases rx;obtain⟨t,rfl⟩:=ry;obtain⟨aj,r,pl,hz⟩:=I.tuple hq;obtain⟨j,h1,h2,h3,h4,h5⟩:=tX he;obtain⟨w,ew,rw'⟩:=r.get h2;have hl:=r.length;have hn:=ny;have fin:EP X pins σ Q w s:=⟨z,H,I,rw',q⟩
 exact ZG (x:=w) pl.typeIs Vi.lookup
  (getItem_tuple (j:=j) (Q:=λr s'=>r=w/\EP X pins σ Q r s') pl (by omega) (by omega) (by rw[Uw,<- hl];exact h1) (by simpa using ew) ⟨rfl,fin⟩) hs
theorem Ly:zU X PY:=by
 intro value slice pins s σ H x y v u Q I rx ry h hs;obtain⟨z,i,c,rfl,rfl,hz,he,q⟩:=h;obtain⟨t,rfl⟩:=rx;obtain⟨t',rfl⟩:=ry;obtain⟨j,h1,h2,h3,h4,h5⟩:=tX he;have hl:z.cps.toList.length=z.length:=by simp[Str.length]
 rw[hl] at h1 h4 h5;have hn:=ny;exact tail_any (aaO s z t) slot_str_getitem.lookup (getItem_str (c:=c) (by
  have e1:decide (i < -(2 ^ 63:Int))=false:=decide_eq_false (by omega);have e2:decide (i ≥ 2 ^ 63)=false:=decide_eq_false (by omega);rw[e1,e2,Bool.or_false]) (by rw[h1];simpa using h2) ⟨.str ⟨#[c]⟩,H,I.tok _,⟨_,rfl⟩,q⟩) hs
noncomputable def TR(K:Ud):R2:=λx y H Q=>PZ K x y H Q\/Ox K x y H Q\/PY x y H Q
theorem JQ:zU X (TR X.K):=FD.or (Kb.or Ly)
theorem yo(aj:List Value)(n j:Nat)(u:Value):Wo (·.setIfInBounds j u) { cls:= .type "list",data:= .seq aj.toArray n }={ cls:= .type "list",data:= .seq (aj.set j u).toArray n }:=by
 simp[Wo]
theorem Inv.lst{pins:List (Addr × Obj)}{σ :St}{H:Hp}{s:Uj}{p:Addr}{xs:List V}(I:Inv X pins σ H s)(h:H p=some (.lst xs)) :
  ∃(aj:List Value)(n:Nat),Vals xs aj/\s.heap.get? p=some { cls:= .type "list",data:= .seq aj.toArray n }/\xs.length<=sizeLine:=by
 obtain⟨z,aj,n,r,e⟩:=I.bD p _ h;exact⟨aj,n,r,e,z⟩
theorem Inv.Lx{pins:List (Addr × Obj)}{σ :St}{H:Hp}{s:Uj}{p:Addr}{xs ys:List V}{aj its':List Value}{n n':Nat}{f:Obj->Obj}(I:Inv X pins σ H s)(h:H p=some (.lst xs))
  (ho:s.heap.get? p=some { cls:= .type "list",data:= .seq aj.toArray n }) (hf:f { cls:= .type "list",data:= .seq aj.toArray n }={ cls:= .type "list",data:= .seq its'.toArray n' }) (r:Vals ys its') (hz:ys.length<=sizeLine) (t:Nat) :
  Inv X pins σ (upd H p (.lst ys)) { s with heap:=s.heap.update p f,toks:=t }:=by
 have e:(s.heap.update p f).get? p=some { cls:= .type "list",data:= .seq its'.toArray n' }:=by
  rw[Z2 f ho (by rw[hf]<;>rfl),hf]
 refine I.write (x:=p) (e:=p) (by rw[h];trivial) (.inl rfl) (λb u hb q=>(ZH _ _ (V3 hb)).trans q) ⟨_,e⟩ ?_;exact⟨hz,its',n',r,e⟩
noncomputable def Qu:V->V->V->Hp->(Hp->Prop)->Prop:=λo i v H Q=> ∃ p xs k j,o= .ref p/\i= .int k/\H p=some (.lst xs)/\qw xs.length k=some j/\Q (upd H p (.lst (xs.set j v)))
theorem set_list:qY X Qu:=by
 intro pins s σ H o i v ov iv u Q I ro ri rv h;obtain⟨p,xs,k,j,rfl,rfl,hp,hj,q⟩:=h;cases ro;obtain⟨t,rfl⟩:=ri;obtain⟨aj,n,r,ho,hz⟩:=I.lst hp;obtain⟨h1,h2,h3,h4⟩:=yv hj;have hl:=r.length;have hn:=ny;have I':Inv X pins σ (upd H p (.lst (xs.set j v))) { s with heap:=s.heap.update p (Wo (·.setIfInBounds j u)) } :=
  I.Lx hp ho (yo aj n j u) (r.set rv j) (by rw[UW];exact hz) s.toks
 by_cases h0:0<=k
 . have hk:k.toNat=j:=by
    rw[abw h0 h4] at h1;exact Vg h1
   exact PySem.W.ki_setAt ho h0 (by omega) (by rw[Uw,<- hl];exact h4) (by rw[hk];exact⟨_,I',q⟩)
 . have hk:(k+(aj.toArray.size:Int)).toNat=j:=by
    rw[aa1 (by omega) h3] at h1;rw[Uw,<- hl];exact Vg h1
   exact PySem.W.ki_setBack ho (by omega) (by rw[Uw,<- hl];exact h3) (by omega) (by rw[hk];exact⟨_,I',q⟩)
theorem sY(lo hi:Option Int)(n:Nat):(XF lo hi none n).1=((HT.df n 0 lo:Nat):Int)/\(XF lo hi none n).2.1=((HT.df n n hi:Nat):Int)/\(XF lo hi none n).2.2=1:=by
 refine⟨?_,?_,rfl⟩
 . cases lo with
   | none=>simp[XF,HT.df]
   | some i =>
    simp only[XF,HT.df,abj,show(1:Int) > 0 by decide,if_true]
    by_cases h:i < 0
    . simp only[h,if_true]<;>omega
    . simp only[h,if_false]<;>omega
 . cases hi with
   | none=>simp[XF,HT.df]
   | some i =>
    simp only[XF,HT.df,abj,show(1:Int) > 0 by decide,if_true]
    by_cases h:i < 0
    . simp only[h,if_true]<;>omega
    . simp only[h,if_false]<;>omega
theorem rh(aj:List Value)(lo hi:Option Int):slicePick aj.toArray lo hi none=((aj.drop (HT.df aj.length 0 lo)).take (HT.df aj.length aj.length hi - HT.df aj.length 0 lo)).toArray:=by
 obtain⟨h1,h2,h3⟩:=sY lo hi aj.toArray.size;unfold slicePick;rw[h1,h2,h3];simp only[sliceRange_one,pick_run,Uw]<;>rfl
noncomputable def PB(K:Ud):V->Option Int->Option Int->Hp->VK->Prop:=λx lo hi H Q=> ∃ a xs,x= .ref a/\iS K H a xs/\ ∀ p,H p=none->Q (.ref p) (upd H p (.lst (nV xs lo hi)))
theorem ET:EK X (PB X.K):=by
 intro pins s σ H x v vl vu lo hi sl Q I rx hs pl pu h;obtain⟨a,xs,rfl,hx,q⟩:=h;cases rx;obtain⟨aj,r,ht,hz⟩:=I.list hx;have hlen:=r.length;refine⟨"list",_,slot_list_getitem.lookup,ht.isList.typeIs,?_⟩;refine wpAny_getItem_list_slice ht.isList hs pl pu .none (by simp) ?_ (by rw[Uw]<;>omega);rw[rh,<- hlen];refine⟨.ref s.heap.objs.size,_,I.laid (t':=s.toks) (o:= .lst (nV xs lo hi)) (λb ob q=>Uk _ q) (Uo _) ?_,rfl,q _ (I.bD.fresh (Uo _))⟩;exact⟨UO (nQ xs lo hi) hz,_,0,(r.drop (HT.df xs.length 0 lo)).take (HT.df xs.length xs.length hi - HT.df xs.length 0 lo),UB _ rfl⟩
noncomputable def iR:V->Bool
 | .non=>true
 | .bl _=>true
 | .int _=>true
 | .str _=>true
 | _=>false
noncomputable def HH:V->V->Bool
 | .non,.non=>true
 | .bl a,.bl b=>a == b
 | .bl a,.int b=>(if a then 1 else 0) == b
 | .int a,.bl b=>a == (if b then 1 else 0)
 | .int a,.int b=>a == b
 | .str a,.str b=>a == b
 | _,_=>false
theorem La{A:U6}{s:Uj}{y x:V}{u v:Value}(ry:RelV y u)(rx:RelV x v)(fy:iR y=true)(fx:iR x=true):SeqAt.EqAt A s u v (HH y x):=by
 cases y with
 | non =>
  cases ry
  cases x with
  | non=>cases rx;exact SeqAt.EqAt.same _
  | bl b=>cases rx;exact SeqAt.EqAt.none_bool b
  | int b=>obtain⟨t,rfl⟩:=rx;exact SeqAt.EqAt.none_int b t
  | str b=>obtain⟨t,rfl⟩:=rx;exact SeqAt.EqAt.none_str b t
  | _=>exact absurd (show false=true from fx) UG
 | bl a =>
  cases ry
  cases x with
  | non=>cases rx;exact SeqAt.EqAt.bool_none a
  | bl b=>cases rx;exact SeqAt.EqAt.bool_bool a b
  | int b=>obtain⟨t,rfl⟩:=rx;exact SeqAt.EqAt.bool_int a b t
  | str b=>obtain⟨t,rfl⟩:=rx;exact SeqAt.EqAt.bool_str a b t
  | _=>exact absurd (show false=true from fx) UG
 | int a =>
  obtain⟨t',rfl⟩:=ry
  cases x with
  | non=>cases rx;exact SeqAt.EqAt.int_none a t'
  | bl b=>cases rx;exact SeqAt.EqAt.int_bool a t' b
  | int b=>obtain⟨t,rfl⟩:=rx;exact SeqAt.EqAt.int_int a t' b t
  | str b=>obtain⟨t,rfl⟩:=rx;exact aaJ a t' b t
  | _=>exact absurd (show false=true from fx) UG
 | str a =>
  obtain⟨t',rfl⟩:=ry
  cases x with
  | non=>cases rx;exact SeqAt.EqAt.str_none a t'
  | bl b=>cases rx;exact SeqAt.EqAt.str_bool a t' b
  | int b=>obtain⟨t,rfl⟩:=rx;exact aaK a t' b t
  | str b=>obtain⟨t,rfl⟩:=rx;exact aaP a t' b t
  | _=>exact absurd (show false=true from fx) UG
 | _=>exact absurd (show false=true from fy) UG
noncomputable def xb(x:V)(u:Value):Bool:=match u with
 | .none=>HH .non x
 | .bool b=>HH (.bl b) x
 | .int i _=>HH (.int i) x
 | .str z _=>HH (.str z) x
 | _=>false
theorem Eu{x y:V}{u:Value}(r:RelV y u)(f:iR y=true):xb x u=HH y x:=by
 cases y with
 | non=>cases r;rfl
 | bl b=>cases r;rfl
 | int i=>obtain⟨t,rfl⟩:=r;rfl
 | str z=>obtain⟨t,rfl⟩:=r;rfl
 | _=>exact absurd (show false=true from f) UG
theorem lL{x:V}: ∀{xs:List V}{us:List Value},Vals xs us->xs.all iR=true->us.any (xb x)=xs.any λy=>HH y x
 | _,_,.nil,_=>rfl
 | y::xs,u::us,.cons r t,f=>by
  rw[Xs,UD] at f;rw[VJ,VJ,Eu r f.1,lL t f.2]
theorem jo{A:U6}{s:Uj}{x:V}{v:Value}(rx:RelV x v)(fx:iR x=true): ∀{xs:List V}{us:List Value},Vals xs us->xs.all iR=true-> ∀ u∈us,SeqAt.EqAt A s u v (xb x u)
 | _,_,.nil,_=>λu hu=>by cases hu
 | y::xs,u::us,.cons r t,f=>λu' hu=>by
  rw[Xs,UD] at f;rcases Uy.mp hu with rfl | hu
  . rw[Eu r f.1];exact La r rx f.1 fx
  . exact jo rx fx t f.2 u' hu
noncomputable def gE(x:V)(xs:List V):Bool:=xs.any λy=>HH y x
noncomputable def Tp(K:Ud)(neg:Bool):R2:=λx y H Q=> ∃ p xs,y= .ref p/\(iS K H p xs\/fM K H p xs)/\iR x=true/\xs.all iR=true/\Q (.bl (if neg then !gE x xs else gE x xs)) H
theorem Bn:dw X (UY .In) (Tp X.K false):=by
 intro pins s σ H x y v u Q I rx ry h;obtain⟨p,xs,rfl,hq,fx,fs,q⟩:=h;cases ry;rcases hq with hq | hq
 . obtain⟨aj,r,pl,hz⟩:=I.list hq;refine SeqAt.in_listAt (xb x) pl.isList (λw hw=>jo rx fx r fs w (by simpa using hw)) ⟨.bl _,H,I,rfl,?_⟩;rw[show aj.toArray.any (xb x)=aj.any (xb x) by simp,lL r fs];exact q
 . obtain⟨aj,r,pl,hz⟩:=I.tuple hq;refine SeqAt.in_tupleAt (xb x) pl (λw hw=>jo rx fx r fs w (by simpa using hw)) ⟨.bl _,H,I,rfl,?_⟩;rw[show aj.toArray.any (xb x)=aj.any (xb x) by simp,lL r fs];exact q
theorem tf:dw X (UY .NotIn) (Tp X.K true):=by
 intro pins s σ H x y v u Q I rx ry h;obtain⟨p,xs,rfl,hq,fx,fs,q⟩:=h;cases ry;rcases hq with hq | hq
 . obtain⟨aj,r,pl,hz⟩:=I.list hq;refine SeqAt.notIn_listAt (xb x) pl.isList (λw hw=>jo rx fx r fs w (by simpa using hw)) ⟨.bl _,H,I,rfl,?_⟩;rw[show aj.toArray.any (xb x)=aj.any (xb x) by simp,lL r fs];exact q
 . obtain⟨aj,r,pl,hz⟩:=I.tuple hq;refine SeqAt.notIn_tupleAt (xb x) pl (λw hw=>jo rx fx r fs w (by simpa using hw)) ⟨.bl _,H,I,rfl,?_⟩;rw[show aj.toArray.any (xb x)=aj.any (xb x) by simp,lL r fs];exact q
theorem sS:dw X (UY .NotIn) (λx y H Q=> ∃ i j,x= .str i/\y= .str j/\Q (.bl (!(!(WM j i 0 j.length 1).isEmpty))) H):=by
 intro pins s σ H x y v u Q I rx ry h;obtain⟨i,j,rfl,rfl,q⟩:=h;obtain⟨t,rfl⟩:=rx;obtain⟨t',rfl⟩:=ry;exact notIn_str ⟨.bl _,H,I,rfl,q⟩
theorem tH:aV X (.builtin "len") (λxs H Q=> ∃ p ys,xs=[.ref p]/\(iS X.K H p ys\/fM X.K H p ys)/\Q (.int ys.length) H):=by
 intro pins s σ H xs us Q I r h;obtain⟨p,ys,rfl,hq,q⟩:=h;obtain⟨u,rfl,rx⟩:=vals1 r;cases rx;have hn:=ny;rcases hq with hq | hq
 . obtain⟨aj,r',pl,hz⟩:=I.list hq;have hlen:=r'.length;exact Calls.call_len_list pl.isList (by simp only[Uw]<;>omega) ⟨.int ys.length,H,I.tok _,⟨s.toks+1,by rw[Uw,hlen]⟩,q⟩
 . obtain⟨aj,r',pl,hz⟩:=I.tuple hq;have hlen:=r'.length;exact len_tuple pl (by simp only[Uw]<;>omega) ⟨.int ys.length,H,I.tok _,⟨s.toks+1,by rw[Uw,hlen]⟩,q⟩
theorem sT:aV X (.builtin "len") (λxs H Q=> ∃ z,xs=[.str z]/\z.length<=sizeLine/\Q (.int z.length) H):=by
 intro pins s σ H xs us Q I r h;obtain⟨z,rfl,hz,q⟩:=h;obtain⟨u,rfl,t,rfl⟩:=vals1 r;have hn:=ny;exact len_str (by omega) ⟨.int z.length,H,I.tok _,⟨_,rfl⟩,q⟩
theorem aV.or{f:Value}{r r':List V->Hp->VK->Prop}(h:aV X f r)(h':aV X f r'):aV X f (λxs H Q=>r xs H Q\/r' xs H Q):=by
 intro pins s σ H xs us Q I rs q;rcases q with q | q
 . exact h pins s σ H xs us Q I rs q
 . exact h' pins s σ H xs us Q I rs q
theorem sF:aV X (.type "list") (λxs H Q=> ∃ p ys,xs=[.ref p]/\(iS X.K H p ys\/fM X.K H p ys)/\ ∀ l,H l=none->Q (.ref l) (upd H l (.lst ys))):=by
 intro pins s σ H xs us Q I r h;obtain⟨p,ys,rfl,hq,q⟩:=h;obtain⟨u,rfl,rx⟩:=vals1 r;cases rx;have fin: ∀(aj:List Value),Vals ys aj->ys.length<=sizeLine-> ∀(h':Heap)(c':Nat),(∀ b o',s.heap.get? b=some o'->h'.get? b=some o') ->
   h'.get? s.heap.objs.size=some { cls:= .type "list",dict:=none,data:= .seq aj.toArray c',slots:= #[] }->EP X pins σ Q (.ref s.heap.objs.size) { s with heap:=h' }:=λaj r' hz h' c' kp e =>
  ⟨.ref s.heap.objs.size,_,I.laid (t':=s.toks) kp (Uo _) (show ba X.prog X.w _ h' _ (.lst ys) from⟨hz,aj,c',r',e⟩),rfl,q _ (I.bD.fresh (Uo _))⟩
 rcases hq with hq | hq
 . obtain⟨aj,r',pl,hz⟩:=I.list hq;have hlen:=r'.length;obtain⟨o,ho,hc,n,hd⟩:=pl.isList;exact call_list_seq p (.inl rfl) ho hc hd (λh' c' kp e=>fin aj r' hz h' c' kp e) (by simp only[Uw]<;>omega)
 . obtain⟨aj,r',pl,hz⟩:=I.tuple hq;have hlen:=r'.length;obtain⟨o,ho,hc,n,hd⟩:=pl;exact call_list_seq p (.inr rfl) ho hc hd (λh' c' kp e=>fin aj r' hz h' c' kp e) (by simp only[Uw]<;>omega)
theorem qz:aV X (.type "tuple") (λxs H Q=> ∃ p ys,xs=[.ref p]/\((iS X.K H p ys/\ ∀ l,H l=none->Q (.ref l) (upd H l (.tup ys)))\/(fM X.K H p ys/\Q (.ref p) H))):=by
 intro pins s σ H xs us Q I r h;obtain⟨p,ys,rfl,h⟩:=h;obtain⟨u,rfl,rx⟩:=vals1 r;cases rx;rcases h with⟨hq,q⟩ | ⟨hq,q⟩
 . obtain⟨aj,r',pl,hz⟩:=I.list hq;have hlen:=r'.length;refine call_tuple_list pl.isList (λh' kp=>?_) (by simp only[Uw]<;>omega);have I1:Inv X pins σ H { s with heap:=h' }:=I.kept (t':=s.toks) kp;have I2:Inv X pins σ (upd H h'.objs.size (.tup ys)) { s with heap:=h'.push { cls:= .type "tuple",data:= .seq aj.toArray } } :=
    I1.laid (t':=s.toks) (λb o e=>Uk _ e) (Uo _) (show ba X.prog X.w _ _ _ (.tup ys) from⟨hz,aj,r',qQ.new _ _⟩)
   exact⟨.ref h'.objs.size,_,I2,rfl,q _ (I1.bD.fresh (Uo _))⟩
 . obtain⟨aj,r',pl,hz⟩:=I.tuple hq;exact call_tuple_same pl ⟨.ref p,H,I,rfl,q⟩
noncomputable def Rq(K:Ud)(T:String)(x:V)(H:Hp):Prop:=match x with
 | .str _=>T= "str"
 | .int _=>T= "int"
 | .ref p=>(T= "list" /\ ∃ xs,iS K H p xs)\/(T= "tuple" /\ ∃ o,K.lookup p=some o/\o.cls= .type "tuple" /\o.dict=none) \/
   (T= "dict" /\((∃ kvs,H p=some (.dK kvs))\/ ∃ kvs,H p=some (.dT kvs)))\/(T= "set" /\ ∃ S n,H p=some (.set S n))
 | _=>False
theorem JZ{pins:List (Addr × Obj)}{σ :St}{H:Hp}{s:Uj}{T:String}{x:V}{v:Value}(I:Inv X pins σ H s)(r:RelV x v)(ty:Rq X.K T x H) :
  s.TypeIs v T/\ ∀ a,v= .ref a-> ∃ ob,s.heap.get? a=some ob/\ob.dict=none:=by
 cases x with
 | str z =>
  obtain⟨t,rfl⟩:=r
  cases(show T= "str" from ty)
  exact⟨aaO s z t,λ_ e=>nomatch e⟩
 | int i =>
  obtain⟨t,rfl⟩:=r
  cases(show T= "int" from ty)
  exact⟨ZI s i t,λ_ e=>nomatch e⟩
 | ref p =>
  cases r
  rcases ty with⟨rfl,xs,hq⟩ | ⟨rfl,o,hk,hc,hd⟩ | ⟨rfl,hk⟩ | ⟨rfl,S,n,hk⟩
  . obtain⟨aj,_,pl,_⟩:=I.list hq;refine⟨pl.isList.typeIs,λa e=>?_⟩;cases e;obtain⟨o,n,e,c,hd,_⟩:=pl;exact⟨o,e,hd⟩
  . refine⟨⟨o,I.my p o hk,hc⟩,λa e=>?_⟩;cases e;exact⟨o,I.my _ o hk,hd⟩
  . have z: ∃ o,s.heap.get? p=some o/\o.ExactDict:=by
     rcases hk with⟨kvs,hk⟩ | ⟨kvs,hk⟩
     . obtain⟨_,_,_,_,o,_,_,e,ex,_⟩:=I.bD p _ hk;exact⟨o,e,ex⟩
     . obtain⟨_,_,_,_,o,_,_,e,ex,_⟩:=I.bD p _ hk;exact⟨o,e,ex⟩
    obtain⟨o,e,ex⟩:=z;refine⟨⟨o,e,ex.1⟩,λa e2=>?_⟩;cases e2;exact⟨o,e,ex.2.1⟩
  . obtain⟨o,_,_,_,e,ex,_⟩:=I.bD p _ hk;refine⟨⟨o,e,ex.1⟩,λa e2=>?_⟩;cases e2;exact⟨o,e,ex.2.1⟩
 | _=>exact VR ty
noncomputable def Tx(K:Ud)(T:String)(r:V->List V->Hp->VK->Prop)(to:TE)(t:TA):TE:=fun σ H Q=>to σ H λx H1=>Rq K T x H1/\t σ H1 λxs H2=>r x xs H2 Q
variable{o e:Expr}{es:List Expr}{to:TE}{t:TA}{name:Str}{apos cpos:Pos}{T id:String}{r:V->List V->Hp->VK->Prop}
theorem PM(pa:aaQ T)(slot:Slot T name id)(hty:typeOf (.builtin id)=pure (.type "method_descriptor"))(hm:Jg X id r)(ho:PE X o to)(ha:PA X (e::es) t)
  (hbase:WJ o name X.env (eval o X.env)=eval o X.env:=by rfl)
  (hfew:((XI cpos (U7 (e::es) X.env)).all (λx=> !x.1)&&(backToKw cpos (abx [] X.env)).all (λx=>x.1.isSome)
   && decide ((e::es).length+([]:List aat).length+(if ([]:List aat).isEmpty then 0 else 1) < 30))=true:=by rfl)
  (hline:(apos.endLine == cpos.line)=true:=by rfl) (hs:U7 (e::es) X.env=(false,eval e X.env)::U7 es X.env:=by rfl) (hplain:(XI cpos (U7 es X.env)).any (·.1)=false:=by rfl) :
  PE X (.Call (.Attribute o name apos) (e::es) [] cpos) (Tx X.K T r to t):=by
 intro pins s σ H Q I h;refine ZJ hbase hfew hline rfl (cL (ho pins s σ H _ I h) λv s1 ⟨x,H1,I1,r1,ty,q1⟩=>?_);obtain⟨h1,h2⟩:=JZ I1 r1 ty;refine⟨T,id,pa,slot,hty,h1,h2,?_⟩;have hA:=ha cpos pins s1 σ H1 _ I1 q1;rw[hs] at hA ⊢;refine XQ (by show(false||(XI cpos (U7 es X.env)).any (·.1))=false;rw[hplain]<;>rfl) (Yc ?_)
 exact cL hA λus s2 ⟨vs,H2,I2,r2,q2⟩=>hm pins s2 σ H2 x vs v us Q I2 r1 r2 q2
/- xs.append(e),list.index on a module's tuple .. are Jg facts of 06m -/
end
noncomputable def Rj(X:Cx)(id:String)(r:V->List V->Hp->VK->Prop):Prop :=
 ∀(pins:List (Addr × Obj))(s:Uj)(σ :St)(H:Hp)(x:V)(xs:List V)(v:Value)(us:List Value)(Q:VK),Inv X pins σ H s->RelV x v->Vals xs us->r x xs H Q ->
  wpAny (model X.prog X.w) X.A (call (.builtin id) (v::us)) (EP X pins σ Q) X.xe s
theorem Vals.one: ∀{x:V}{us:List Value},Vals [x] us-> ∃ u,us=[u]/\RelV x u
 | _,_,.cons r .nil=>⟨_,rfl,r⟩
theorem Vals.zero: ∀{us:List Value},Vals [] us->us=[]
 | _,.nil=>rfl
theorem Vals.eraseIdx: ∀{xs:List V}{us:List Value}(i:Nat),Vals xs us->Vals (xs.eraseIdx i) (us.eraseIdx i)
 | _,_,_,.nil=> .nil
 | _,_,0,.cons _ t=>t
 | _,_,i+1,.cons r t=> .cons r (Vals.eraseIdx i t)
theorem Vals.rep{xs:List V}{us:List Value}(h:Vals xs us): ∀ k:Nat,Vals (Up k xs).flatten (Up k us).flatten
 | 0=> .nil
 | k+1=>by
  rw[VY,VY,WD,WD];exact Vals.append h (Vals.rep h k)
theorem rE{α :Type}: ∀(l:List α)(i:Nat),(l.eraseIdx i).length<=l.length
 | [],_=>Uo _
 | _::_,0=>Y0 _
 | _::r,i+1=>Zp (rE r i)
theorem foldl_rep(aj:List Value): ∀(k:Nat)(acc:List Value),
  aaR (λx1 x2=>x1++x2) acc.toArray (Up k aj.toArray)=(acc++(Up k aj).flatten).toArray
 | 0,acc=>by simp
 | k+1,acc=>by
  have e:acc.toArray++aj.toArray=(acc++aj).toArray:=by simp
  have e2:(acc++aj)++(Up k aj).flatten=acc++(Up (k+1) aj).flatten:=by
   rw[VY,WD,UT]
  rw[<- e2,<- foldl_rep aj k (acc++aj),<- e,VY,List.foldl_cons]
section
variable{X:Cx}{pins:List (Addr × Obj)}{σ :St}{H:Hp}{s:Uj}{l b:Addr}{xs ys zs:List V}
theorem Inv.OV{aj its':List Value}{n:Nat}{f:Array Value->Array Value}{t':Nat}(I:Inv X pins σ H s)(hH:H l=some (.lst xs))
  (e:s.heap.get? l=some { cls:= .type "list",data:= .seq aj.toArray n }) (hf:f aj.toArray=its'.toArray) (hv:Vals ys its') (hz:ys.length<=sizeLine) :
  Inv X pins σ (upd H l (.lst ys)) { s with heap:=s.heap.update l (Wo f),toks:=t' }:=by
 have q:=PySem.IsL.update e f;rw[hf] at q;refine I.write (x:=l) (e:=l) (by rw[hH];exact trivial) (.inl rfl) (λb' u hb hu=>(ZH s.heap (Wo f) (V3 hb)).trans hu) ⟨_,q⟩ ?_;exact⟨hz,its',_,hv,q⟩
theorem Inv.Q0{aj:List Value}{t':Nat}(I:Inv X pins σ H s)(hv:Vals ys aj)(hz:ys.length<=sizeLine) :
  Inv X pins σ (upd H s.heap.objs.size (.lst ys)) { s with heap:=s.heap.push { cls:= .type "list",data:= .seq aj.toArray },toks:=t' } :=
 I.laid (λ_ _ q=>Uk _ q) (Uo _) ⟨hz,aj,0,hv,UB _ rfl⟩
theorem Inv.fresh(I:Inv X pins σ H s):H s.heap.objs.size=none:=I.bD.fresh (Uo _)
theorem Inv.Au(I:Inv X pins σ H s)(hH:H l=some (.lst xs)):xs.length<=sizeLine/\ ∃(aj:List Value)(n:Nat),Vals xs aj/\xs.length=aj.length/\s.heap.get? l=some { cls:= .type "list",data:= .seq aj.toArray n }:=by
 obtain⟨z,aj,n,r,e⟩:=I.bD l _ hH;exact⟨z,aj,n,r,r.length,e⟩
theorem DX{n:Nat}(h:n<=sizeLine):Xt n=false:=by
 unfold Xt;exact decide_eq_false (by omega)
end
section
variable{X:Cx}
noncomputable def Fe:V->List V->Hp->VK->Prop:=λx vs H Q=> ∃ l xs y,x= .ref l/\vs=[y]/\H l=some (.lst xs)/\xs.length < sizeLine/\Q .non (upd H l (.lst (xs++[y])))
theorem AZ:Rj X "list.append" Fe:=by
 intro pins s σ H x vs v us Q I rx rv h;obtain⟨l,xs,y,rfl,rfl,hH,hz,q⟩:=h;cases rx;obtain⟨u,rfl,ru⟩:=rv.one;obtain⟨z,aj,n,r,hl,e⟩:=I.Au hH;refine Wb F.slot_list_append ⟨_,e,rfl⟩ F.entry_list_append (F.args_list_append_2 _ _) (PySem.list_append l aj.toArray n u (by rw[Uw];omega)) ⟨e,?_⟩;refine⟨.non,_,I.OV (its':=aj++[u]) hH e (by simp) (r.append (.cons ru .nil)) ?_,rfl,q⟩;rw[Uu,Z3];omega
noncomputable def O6:R2:=λx y H Q=> ∃ l b xs zs,x= .ref l/\y= .ref b/\H l=some (.lst xs)/\H b=some (.lst zs)/\xs.length+zs.length<=sizeLine/\ ∀ p,H p=none->Q (.ref p) (upd H p (.lst (xs++zs)))
theorem JK:dw X (VD .Add) O6:=by
 intro pins s σ H x y v u Q I rx ry h;obtain⟨l,b,xs,zs,rfl,rfl,hH,hB,hz,q⟩:=h;cases rx;cases ry;obtain⟨z,aj,n,r,hl,e⟩:=I.Au hH;obtain⟨z2,its2,n2,r2,hl2,e2⟩:=I.Au hB;refine PySem.P.add_list e e2 ?_ (by rw[Uw,Uw];omega);have ea:aj.toArray++its2.toArray=(aj++its2).toArray:=by simp
 rw[ea];exact⟨.ref _,_,I.Q0 (t':=s.toks) (r.append r2) (by rw[Uu];omega),rfl,q _ I.fresh⟩
noncomputable def R5:R2:=λx y H Q=> ∃ l k xs,x= .ref l/\y= .int k/\H l=some (.lst xs)/\ -(2 ^ 63)<=k/\k < 2 ^ 63/\xs.length*k.toNat<=sizeLine /\
 ∀ p,H p=none->Q (.ref p) (upd H p (.lst (Up k.toNat xs).flatten))
theorem len_rep{α :Type}(xs:List α)(k:Nat):(Up k xs).flatten.length=k*xs.length:=by
 induction k with
 | zero=>simp
 | succ k ih=>rw[VY,WD,Uu,ih,Nat.succ_mul,XR]
theorem Nu:dw X (VD .Mult) R5:=by
 intro pins s σ H x y v u Q I rx ry h;obtain⟨l,k,xs,rfl,rfl,hH,h1,h2,hz,q⟩:=h;cases rx;obtain⟨t,rfl⟩:=ry;obtain⟨z,aj,n,r,hl,e⟩:=I.Au hH;have hlen:aj.toArray.size*k.toNat<=sizeLine:=by rw[Uw,<- hl];exact hz
 have hcap: ¬ aj.toArray.size*k.toNat > (2 ^ 63 - 1) / 8:=by
  have:(sizeLine:Nat)<=(2 ^ 63 - 1) / 8:=by decide
  omega
 have hfit: ¬ (!Builtin.List.listFitsIndex k)=true:=by
  rw[fitsIndex_both h1 h2];exact UG
 have hlong: ¬ Xt (aj.toArray.size*k.toNat)=true:=by
  rw[DX hlen];exact UG
 have hnew:aaR (λx1 x2=>x1++x2) #[] (Up (if aj.toArray.isEmpty=true then 0 else k.toNat) aj.toArray)=(Up k.toNat aj).flatten.toArray:=by
  have f0: ∀ m:Nat,aaR (λx1 x2=>x1++x2) #[] (Up m aj.toArray)=(Up m aj).flatten.toArray:=λm=>by
   have:=foldl_rep aj m [];rw[UR] at this;exact this
  rw[f0];cases aj with
  | nil=>simp
  | cons a r'=>rw[if_neg (by simp)]
 refine YT (T:= "list") (U:= "int") (by decide) ⟨_,e,rfl⟩ (λs'=>ZI s' k t) noFill_list_mul F.fills_int_mul F.slot_int_rmul repeat_list F.slot_int_index.lookup
  (Wb F.slot_int_rmul (ZI s k t) F.entry_int_rmul (F.args_int_rmul_2 _ _) (int___rmul___int_list k t l aj.toArray n)
   ⟨e,rfl,⟨_,e,rfl⟩,Wb F.slot_list_mul ⟨_,e,rfl⟩ F.entry_list_mul (F.args_list_mul_2 _ _) (AutoListH.list___mul___list_int_3 l aj.toArray n k t hfit hcap hlong) ⟨e,?_⟩⟩)
 rw[hnew];exact⟨.ref _,_,I.Q0 (t':=s.toks) (r.rep k.toNat) (by rw[len_rep,aa2];exact hz),rfl,q _ I.fresh⟩
end
end L2
namespace Att
open PySem PySem.W PySem.Calls PyProof.Rows
theorem nZ{P:Params}{h:Heap}: ∀(ns:List Int)(vs:List Value),WellAll P h vs (ns.map WData.int)->abG vs ns:=by
 intro ns
 induction ns with
 | nil =>
  intro vs w
  rw[UU] at w
  cases w
  exact .nil
 | cons n ns ih =>
  intro vs w
  rw[Ul] at w
  cases w with
  | cons a b =>
   cases a
   exact .cons _ _ (ih _ b)
theorem Az {l : Yd} {n : Nat} (hn : l.most = some n) {P : Params} {h : Heap} {args : List WData} {vals : List Value}
    (hpre : l.row.toRowW.claim.pre args = true) (hwl : WellAll P h vals args) :
    ∃ a vs ns, vals = [UJ a] /\ args = [WData.list (ns.map WData.int)] /\ h.get? a = some { cls := .type "list", data := .seq vs.toArray } /\ abG vs ns /\ ns.length <= n := by
  have hsh : WShape.hasAll [] args [.list .int] = true := (pre_splitW hpre).1;have hc : l.pre.holds [] { args := args } = true := (pre_splitW hpre).2;obtain ⟨d, r, rfl, h1, h2⟩ := hasAllW_cons hsh;obtain rfl := hasAllW_nil h2;obtain ⟨xs, rfl, h3⟩ := hasW_list h1;obtain ⟨ns, rfl⟩ := items_int h3;have hlen : ns.length <= n := by
    unfold OpenLaw.pre at hc;have h4 : (WTm.not (.lt (.lit (.int (n : Int))) (.len (.arg 0)))).holds [] { args := [.list (ns.map .int)] } = true := by
      have h4 := (holds_andW hc).1;rw [hn] at h4;exact h4
    have h5 := condW_of h4 (w_not (w_lt w_lit (w_len_list (w_arg rfl))));rw [Ui] at h5;refine Nat.le_of_not_lt λq => ?_;have q' : (n : Int) < ((ns.length : Nat) : Int) := by omega
    first
      | (rw [decide_eq_true q'] at h5; exact absurd h5 (by decide))
      | (simp at h5; omega)
  cases hwl with
  | cons w1 w2 =>
    cases w2
    cases w1 with
    | list ho hall => exact ⟨_, _, ns, rfl, rfl, ho, nZ ns _ hall, hlen⟩
theorem Bs (l:Yd) (args:List WData):l.row.toRowW.claim.post args (.bool true) args=true :=
 postW_of (r:=l.row.toRowW) (X:=(true == true))
  (show WShape.has [] (.bool true) .bool=true by first | rfl | decide | simp [WShape.has,WShape.arms,WShape.armsAll])
  (show(WTm.eq .res (.lit (.bool true))).value [] { args:=args,res:=some (.bool true),after:=args }=some (.bool (true == true)) from w_eq_bool (w_res rfl) w_lit) rfl
theorem vU{l:Yd}{n:Nat}{q:UN}{loose:List Str}{XP:(Str->Option Value)->Heap->Prop}{YP:World->Heap->Prop}{d:DefRec}
  (hn:l.most=some n) (hdf:d.params.defaults=[])
  (call: ∀(w:World)(s₀ s₁ :Uj)(mg mb:Str->Option Value)(fa:Addr)(o:Obj)(pm cd doc:Value)(a:Addr)(vs:List Value)(ns:List Int),
   Ground q loose [] XP w s₀ mg mb s₁.heap->YP w s₁.heap ->
   s₁.heap.get? fa=some o->o.data= .func (docDef d.name d.params d.body d.scope pm cd doc)->s₁.heap.CodeRec cd d.name->mg d.name=some (.ref fa) ->
   s₁.heap.get? a=some { cls:= .type "list",data:= .seq vs.toArray }->abG vs ns->ns.length<=n->s₁.gens= #[] ->
   ZE (model l.prog w) aau (.call (.ref fa) ⟨[.ref a],[]⟩) (λr s'=>r= .ok (.ret (.bool true))/\OldK s₁.heap s'.heap/\s'.os=s₁.os/\YX s'.gens) s₁) :
  WalkO q loose XP YP l.row.toRowW d [] (λf vs=>abJ f vs):=by
 intro w s₀ s₁ mg mb G Y fa o pm cd doc dV kV ho hd hcd hD hmg hg args vals as hpre hlay hrd hwl hlo;obtain rfl:dV= .none:=Dflts.none hD hdf;obtain rfl:kV= .none:=Dflts.noKw hD;obtain⟨a,vs,ns,rfl,rfl,hobj,hints,hlen⟩:=Az hn hpre hwl;refine enter_call (aaZ (call w s₀ s₁ mg mb fa o pm cd doc a vs ns G Y ho (fd_plain hd) hcd hmg hobj hints hlen hg) λr s' hq=>?_);obtain⟨rfl,h2,h3,h4⟩:=hq;exact⟨.inl ⟨.bool true,.bool true,[],rfl,λ_=>rfl,.bool true,Bs l _,λ_=>⟨List.Pairwise.nil,λ_ hm=>(nomatch hm)⟩⟩,h2,h3,h4⟩
section
variable{prog:UN}{w:World}{A:U6}{E:Value->Uj->Prop}{s:Uj}{K:Frag}
noncomputable def ledger(h:Heap)(L d:Addr):List (Addr × Obj):=(Vn h.objs.size).filterMap λa=>if a=L\/a=d then none else(h.get? a).map λo=>(a,o)
end
end Att
namespace L2
open PySem PySem.Spec PyProof.Rows
theorem rH: ∀{vs:List Value}{ns:List Int},abG vs ns->Vals (ns.map V.int) vs
 | _,_,.nil=> .nil
 | _,_,.cons n t h=> .cons ⟨t,rfl⟩ (rH h)
noncomputable def Dg(H:Hp):Prop:= ∀ b,H b=none\/ ∃ o xs,H b=some (.kI o (.lst xs))
theorem CC{P:UN}{w:World}{K:Ud}{mg mb:Str->Option Value}{CX:By}{k:Nat}{fa a:Addr}{fd:V0}{x:Str}{sp:Sp}{s₁ :Uj}{vs:List Value}{ns:List Int}
  (KX:K.In s₁.heap) (hns:s₁.heap.Ns UI mg) (hb:s₁.heap.Ns builtinsNs mb) (hbb: ∀ x:Str,x≠ "__name__" ->mb x=VA x) (hlim:s₁.heap.NoLimit) (hg:s₁.gens= #[])
  (ha:s₁.heap.get? a=some { cls:= .type "list",data:= .seq vs.toArray }) (hi:abG vs ns) (hl:ns.length<=sizeLine) (hr:dP k aau)
  (F: ∀ base:Heap,K.In base->base.Ns UI mg->lV P w K mg base CX k fa fd [x] sp) (hbind: ∀(s:Uj)(u:Value),ZD s fd ⟨[u],[]⟩ [(x,u)])
  (hsp: ∀ H:Hp,Dg H->iS K H a (ns.map V.int)->sp [.ref a] H (λv _=>v= .bl true) λ_ _ _=>False)
  (hCX: ∀ H e s',CX [] H s₁ (λ_ _ _=>False) e s'->False) :
  ZE (model P w) aau (.call (.ref fa) ⟨[.ref a],[]⟩) (λr s'=>r= .ok (.ret (.bool true))/\OldK s₁.heap s'.heap/\s'.os=s₁.os/\YX s'.gens) s₁ :=by
 have rv:=rH hi;have lenV:=hi.length;have core: ∀ H:Hp,Dg H->iS K H a (ns.map V.int)->ka P w H s₁.heap->(∀ b,H b≠none->b=a)->(H a≠none->K.lookup a=none) ->
   ZE (model P w) aau (.call (.ref fa) ⟨[.ref a],[]⟩) (λr s'=>r= .ok (.ret (.bool true))/\OldK s₁.heap s'.heap/\s'.os=s₁.os/\YX s'.gens) s₁ :=by
  intro H hO hS bD hA hK;have base_of: ∀{b:Addr}{o:Obj},s₁.heap.get? b=some o->H b=none->(t8 s₁.heap H).get? b=some o:=λe n=>B0 e n;have noA: ∀{b:Addr}{o:Obj}{es:Array aav}{ep:Nat},s₁.heap.get? b=some o->o.data= .dict es ep->H b=none:=λ{b o es ep} e d=>by
   cases q:H b with
   | none=>rfl
   | some u =>
    have e':b=a:=hA b (by rw[q];simp)
    subst e'
    rw[ha] at e;cases e
    have d':Data.seq vs.toArray _=Data.dict es ep:=d
    cases d'
  have nsK: ∀{b:Addr}{m:Str->Option Value},s₁.heap.Ns b m->(t8 s₁.heap H).Ns b m:=λ{b m} ⟨o,es,ep,e,d,r⟩=>⟨o,es,ep,base_of e (noA e d),d,r⟩
  have hKb:K.In (t8 s₁.heap H):=λb o e=>base_of (KX b o e) (by
   cases q:H b with
   | none=>rfl
   | some u =>
    have e':b=a:=hA b (by rw[q];simp)
    subst e'
    rw[hK (by rw[q];simp)] at e;cases e)
  have hM:Mod K mg (t8 s₁.heap H):=⟨hKb,nsK hns,⟨mb,nsK hb,hbb⟩,let ⟨mc,h1,h2⟩:=hlim;⟨mc,nsK h1,h2⟩⟩
  have e0:yn P w K mg (t8 s₁.heap H) aau [] s₁ H:=⟨rfl,hM,λb o e=>G6 e,Nat.le_of_eq (Ah _ _),trivial,λb hb=>absurd (show b∈([]:List Addr) from hb) (by simp),bD,.of_eq hg⟩
  refine aaZ ((F _ hKb (nsK hns)).run aau [] s₁ H ⟨[.ref a],[]⟩ [.ref a] [.ref a] _ _ hr e0 (hbind s₁ (.ref a)) (.cons rfl .nil) (hsp H hO hS)) λr s' h=>?_;cases r with
  | error e=>exact(hCX H e s' h).elim
  | ok fl =>
   cases fl with
   | next=>exact VR h
   | brk=>exact VR h
   | cont=>exact VR h
   | ret u =>
    obtain⟨v,H',os,bare,un,hok',r',q⟩:=h
    have q':v= .bl true:=q
    subst q'
    obtain rfl:u=YC true:=r'
    refine⟨rfl,OldK.of_keep λb o e=>?_,os,bare⟩
    cases q:H b with
    | none=>exact un.keep b o e q (by intro z;exact absurd (show b∈([]:List Addr) from z) (by simp)) (by simp)
    | some u =>
     rcases hO b with z | ⟨ob,xs,z⟩
     . rw[q] at z;cases z
     . have z2:=un.l6 b ob _ z;obtain⟨e1,_⟩:=bD b _ z;obtain⟨e2,_⟩:=hok' b _ z2;rw[e] at e1;cases e1;exact e2
 cases hk:K.lookup a with
 | some o =>
  have e:=KX a o hk
  rw[ha] at e
  cases e
  refine core (λ_=>none) (λ_=> .inl rfl) (.inr ⟨_,vs.toArray,_,hk,rfl,rfl,rfl,by rw[Uw,lenV];exact hl,by simpa using rv⟩) (λb u z=>by have z':(none:Option HO)=some u:=z;cases z') (λb z=>absurd rfl z) λz=>absurd rfl z
 | none =>
  refine core (λb=>if b=a then some (.kI { cls:= .type "list",data:= .seq vs.toArray } (.lst (ns.map V.int))) else none) (λb=>?_) (.inl (.inr ⟨{ cls:= .type "list",data:= .seq vs.toArray },if_pos rfl⟩)) (λb u z=>?_) (λb z=>?_) λ_=>hk
  . by_cases hb:b=a
    . exact .inr ⟨_,_,if_pos hb⟩
    . exact .inl (if_neg hb)
  . by_cases hb:b=a
    . have z':=(if_pos hb).symm.trans z;cases z';subst hb;exact⟨ha,by rw[Ui];exact hl,vs,_,rv,ha⟩
    . have z':=(if_neg hb).symm.trans z;cases z'
  . by_cases hb:b=a
    . exact hb
    . exact absurd (if_neg hb) z
theorem Ft{l:Yd}{n k:Nat}{q:UN}{loose:List Str}{XP:(Str->Option Value)->Heap->Prop}{YP:World->Heap->Prop}{d:DefRec}{K:Params->Ud}{CX:World->By}{sp:World->Sp}{x:Str}
  (hn:l.most=some n) (hn2:n<=sizeLine) (hdf:d.params.defaults=[]) (hr:dP k aau)
  (hY: ∀(w:World)(h:Heap),YP w h->(K w.params).In h)
  (F: ∀(w:World)(mg:Str->Option Value)(fa:Addr)(h:Heap),(K w.params).In h->h.Ns UI mg->mg d.name=some (.ref fa) ->
   ∃ fd:V0,(∀(s:Uj)(u:Value),ZD s fd ⟨[u],[]⟩ [(x,u)]) /\
    ∀ base:Heap,(K w.params).In base->base.Ns UI mg->lV l.prog w (K w.params) mg base (CX w) k fa fd [x] (sp w))
  (hsp: ∀(w:World)(H:Hp)(a:Addr)(ns:List Int),ns.length<=n->Dg H->iS (K w.params) H a (ns.map V.int)->sp w [.ref a] H (λv _=>v= .bl true) λ_ _ _=>False)
  (hCX: ∀(w:World)(H:Hp)(s:Uj)(e:Value)(s':Uj),CX w [] H s (λ_ _ _=>False) e s'->False) :
  abO q loose XP YP l.row.toRowW d [] (λf vs=>abJ f vs):=by
 refine Att.vU hn hdf λw s₀ s₁ mg mb fa o pm cd doc a vs ns G Y ho hd hcd hmg hobj hints hlen hg=>?_;have KX:=hY w _ Y;obtain ⟨fd,hb,hF⟩:=F w mg fa _ KX G.T.g hmg;exact CC KX G.T.g G.T.b G.T.builtins G.T.nolimit hg hobj hints (UO hlen hn2) hr hF hb (λH hO hS=>hsp w H a ns hlen hO hS) λH e s'=>hCX w H s₁ e s'
end L2
/- THE LAST THEOREM (shape; LID, My.* are yours):
   My.Adr: a structure of the addresses that your layer names (classes, functions); My.Txt K t: a structure (Prop) of the equations over K;
   My.txt_mk : {K} {implicit addresses ..} (e1 : nsIn K UI "law" = some (some (.ref f))) (e2 : K.lookup f = some ⟨oc, od, .func (fnOf "law" "law" params body scope dV kV doc pm an cdv ct), sl⟩) (e3 : Yk K cdv "law" = true) .. : ∃ t, My.Txt K t
set_option maxRecDepth 100000 in
(the tactic k_is has no namespace:write k_is) -/
namespace L2
open PySem PySem.Spec PyProof.Rows
noncomputable def cJ(s:Stmt):Arguments:=match s with
 | .FunctionDef _ a _ _ _ _ _ _ _ _=>a
 | _=>{ posonlyargs:=[],args:=[],vararg:=none,kwonlyargs:=[],kw_defaults:=[],kwarg:=none,defaults:=[] }
noncomputable def bq(s:Stmt):List Stmt:=match s with
 | .FunctionDef _ _ b _ _ _ _ _ _ _=>b
 | _=>[]
noncomputable def ax(s:Stmt):Scope:=match s with
 | .FunctionDef _ _ _ _ _ _ sc _ _ _=>sc
 | _=>{ kind:= .function,names:=[],isGenerator:=false,isCoroutine:=false }
abbrev ue:By:=λ_ _ _ _ _ _=>False
abbrev E0:XK:=λ_ _ _=>False
theorem PU{X:Cx}:Passes ue X E0:=λ_ _ _ _ _ _ _ h=>h.elim
structure Bx(K:Ud)(x qual:Str)(st:Stmt)(f:Addr)(fd:V0):Prop where
 ex: ∃(oc:Value)(od:Option Addr)(kV doc pm:Value)(an:Option Addr)(cdv ct:Value)(osl:Array (Option Value)),
  fd=Vu x qual (cJ st) (bq st) (ax st) .none kV doc pm an cdv ct/\K.lookup f=some ⟨oc,od,.func fd,osl⟩/\Yk K cdv qual=true
 kp:WN K (.ref f)=true
section
variable{P:UN}{w:World}{K:Ud}{mg:Str->Option Value}{base:Heap}
theorem Bx.ok{x qual:Str}{st:Stmt}{f:Addr}{fd:V0}{N ps:List Str}{k:Nat}{sp:Sp}(F:Bx K x qual st f fd)(S:d9 N ps (ax st))(len: ∀ vs H Q E,sp vs H Q E->vs.length=ps.length)
  (hbody: ∀(cdv:Value)(A:U6)(outer:List Env)(s:Uj)(H:Hp)(vs:List V)(Q:VK)(E:XK),dP k (A.deeper (YG qual (ax st) s.heap.objs.size f cdv))->sp vs H Q E ->
   ∃ t,xw (j5 ue P w K mg base N qual (ax st) f cdv A outer s H E).qy (bq st) t/\t { nx:=λ_ H'=>Q .non H',rt:=Q } (start N vs) H):lV P w K mg base ue (k+1) f fd ps sp:=by
 obtain⟨oc,od,kV,doc,pm,an,cdv,ct,osl,rfl,lk,hcd⟩:=F.ex;refine QN lk hcd S len λA outer s H vs Q E hr hsp=>?_;obtain⟨t,h,q⟩:=hbody cdv A outer s H vs Q E hr hsp;exact⟨t,h.qy,q⟩
theorem Bx.binds{x qual:Str}{st:Stmt}{f:Addr}{fd:V0}{ps:List Str}(F:Bx K x qual st f fd)
  (h: ∀(kV doc pm:Value)(an:Option Addr)(cdv ct:Value)(us:List Value),us.length=ps.length->WV (Vu x qual (cJ st) (bq st) (ax st) .none kV doc pm an cdv ct) ⟨us,[]⟩=pure (ps.zip us)):Binds K fd ps []:=by
 obtain⟨oc,od,kV,doc,pm,an,cdv,ct,osl,rfl,lk,hcd⟩:=F.ex;exact .all (h kV doc pm an cdv ct)
theorem NY{x qual:Str}{st:Stmt}{f:Addr}{oc:Value}{od an:Option Addr}{osl:Array (Option Value)}{kV doc pm cdv ct:Value}(l:K.lookup f=some ⟨oc,od,.func (Vu x qual (cJ st) (bq st) (ax st) .none kV doc pm an cdv ct),osl⟩)
  (c:Yk K cdv qual=true) (k:WN K (.ref f)=true):Bx K x qual st f (Vu x qual (cJ st) (bq st) (ax st) .none kV doc pm an cdv ct):=⟨⟨oc,od,kV,doc,pm,an,cdv,ct,osl,rfl,l,c⟩,k⟩
end
theorem OF{A:U6}{k:Nat}(hr:dP k A):A.units+1 < cLine:=XB (Nat.add_le_add_left (by decide:1<=64) _) hr.units
noncomputable def qR(H H':Hp):Prop:= ∀ b o,H b=some o->H' b=some o
theorem qR.trans{H H1 H2:Hp}(a:qR H H1)(b:qR H1 H2):qR H H2:=λc o h=>b c o (a c o h)
theorem qR.free{H H':Hp}(e:qR H H'){l:Addr}(h:H' l=abY):H l=abY:=by
 cases q:H l with
 | none=>rfl
 | some o =>
  rw[e l o q] at h
  cases h
open PySem PySem.W PyProof.Rows
section
variable{κ :Type}[DecidableEq κ]
noncomputable def gX(kvs:List (κ × V))(k: κ):Option V:=(kvs.find? λkv=>decide (kv.1=k)).map (·.2)
noncomputable def putK(kvs:List (κ × V))(k: κ)(v:V):List (κ × V) :=
 if (kvs.any λkv=>decide (kv.1=k))=true then kvs.map (λkv=>if kv.1=k then(kv.1,v) else kv) else kvs++[(k,v)]
theorem pN{p: κ × V}{r:List (κ × V)}{k: κ}(e:p.1=k):gX (p::r) k=some p.2:=by simp[gX,Wc,e]
theorem oK{p: κ × V}{r:List (κ × V)}{k: κ}(e: ¬ p.1=k):gX (p::r) k=gX r k:=by simp[gX,Wc,e]
theorem uT(k: κ): ∀ kvs:List (κ × V),(kvs.any λkv=>decide (kv.1=k))=(gX kvs k).isSome
 | []=>rfl
 | p::r=>by
  rw[VJ];by_cases e:p.1=k
  . simp only[pN e,decide_eq_true e,Bool.true_or,aaS]
  . rw[oK e,decide_eq_false e,abP];exact uT k r
theorem jz(kvs:List (κ × V))(k: κ)(v:V):(putK kvs k v).length<=kvs.length+1:=by
 unfold putK;split
 . rw[Ui];omega
 . rw[Uu,Um,UL];omega
theorem lN.hU{o:Option V}{u:Option Value}(r:lN o u):o.isSome=u.isSome:=by
 cases o with
 | none=>cases u with
  | none=>rfl
  | some _=>exact(show False from r).elim
 | some _=>cases u with
  | none=>exact(show False from r).elim
  | some _=>rfl
theorem lN.getD{o:Option V}{u:Option Value}{d:V}{d':Value}(r:lN o u)(rd:RelV d d'):RelV (o.getD d) (u.getD d'):=by
 cases o with
 | none=>cases u with
  | none=>exact rd
  | some _=>exact(show False from r).elim
 | some _=>cases u with
  | none=>exact(show False from r).elim
  | some _=>exact r
theorem KV.val{kvs:List (κ × V)}{vs:List (κ × Value)}(r:KV kvs vs)(k: κ):lN (gX kvs k) (ZK vs k):=by
 unfold KV at r
 induction r with
 | nil=>exact Wn
 | @cons p q ps qs h t ih =>
  obtain⟨h1,h2⟩:=h
  by_cases e:p.1=k
  . have e':q.1=k:=h1.symm.trans e;have b:ZK (q::qs) k=some q.2:=by simp[ZK,Wc,e']
    rw[pN e,b];exact h2
  . have e': ¬ q.1=k:=λz=>e (h1.trans z);have b:ZK (q::qs) k=ZK qs k:=by simp[ZK,Wc,e']
    rw[oK e,b];exact ih
theorem KV.any{kvs:List (κ × V)}{vs:List (κ × Value)}(r:KV kvs vs)(k: κ):(kvs.any λkv=>decide (kv.1=k))=vs.any λkv=>decide (kv.1=k):=by
 unfold KV at r
 induction r with
 | nil=>rfl
 | cons h t ih=>rw[VJ,VJ,ih,h.1]
theorem KV.NO{kvs:List (κ × V)}{vs:List (κ × Value)}(r:KV kvs vs)(k: κ){y:V}{u:Value}(ry:RelV y u) :
  KV (kvs.map λkv=>if kv.1=k then(kv.1,y) else kv) (vs.map λkv=>if kv.1=k then(kv.1,u) else kv):=by
 unfold KV at r ⊢
 induction r with
 | nil=>exact .nil
 | @cons p q ps qs h t ih =>
  rw[Ul,Ul]
  refine .cons ?_ ih
  obtain⟨h1,h2⟩:=h
  by_cases e:p.1=k
  . rw[if_pos e,if_pos (h1.symm.trans e)];exact⟨h1,ry⟩
  . rw[if_neg e,if_neg (λz=>e (h1.trans z))];exact⟨h1,h2⟩
theorem KV.put{kvs:List (κ × V)}{vs:List (κ × Value)}(r:KV kvs vs)(k: κ){y:V}{u:Value}(ry:RelV y u):KV (putK kvs k y) (stored vs k u):=by
 unfold putK stored;rw[r.any k];by_cases e:(vs.any λkv=>decide (kv.1=k))=true
 . rw[if_pos e,if_pos e];exact r.NO k ry
 . rw[if_neg e,if_neg e];exact abZ r ⟨rfl,ry⟩
theorem KV.keys{kvs:List (κ × V)}{vs:List (κ × Value)}(r:KV kvs vs):kvs.map (·.1)=vs.map (·.1):=by
 unfold KV at r
 induction r with
 | nil=>rfl
 | cons h t ih=>rw[Ul,Ul,ih,h.1]
theorem KV.length{kvs:List (κ × V)}{vs:List (κ × Value)}(r:KV kvs vs):kvs.length=vs.length:=Xp r
end
theorem lE{P:UN}{w:World}{k:Key}{u:Value}(r:RelV (kV k) u):(aH P w).is k u=true:=by
 cases k with
 | inl i=>obtain⟨t,e⟩:=(show ∃ t,u=Xf i t from r);subst e;exact vz P w i t
 | inr x=>obtain⟨t,e⟩:=(show ∃ t,u=X0 x t from r);subst e;exact uX P w x t
theorem rF{P:UN}{w:World}: ∀{ks:List Key}{us:List Value},Vals (ks.map kV) us->ItemsAre (aH P w) ks us
 | [],_,r=>by rw[UU] at r;cases r;exact .nil
 | k::ks,_,r=>by
  rw[Ul] at r;cases r with
  | cons h t=>exact .cons (lE h) (rF t)
abbrev KT(H:Hp):List (List Key × V)->List (List Key × Addr × Value)->Prop:=Vt λp q=>p.1=q.1/\H q.2.1=some (.tup (p.1.map kV))/\RelV p.2 q.2.2
theorem KT.val{H:Hp}{kvs:List (List Key × V)}{xs:List (List Key × Addr × Value)}(r:KT H kvs xs)(k:List Key):lN (gX kvs k) ((atKey xs k).map (·.2)):=by
 induction r with
 | nil=>exact Wn
 | @cons p q ps qs h t ih =>
  obtain⟨h1,_,h2⟩:=h
  by_cases e:p.1=k
  . have e':q.1=k:=h1.symm.trans e;have b:atKey (q::qs) k=some q.2:=by simp[atKey,Wc,e']
    rw[pN e,b];exact h2
  . have e': ¬ q.1=k:=λz=>e (h1.trans z);have b:atKey (q::qs) k=atKey qs k:=by simp[atKey,Wc,e']
    rw[oK e,b];exact ih
theorem KT.NO{H:Hp}{kvs:List (List Key × V)}{xs:List (List Key × Addr × Value)}(r:KT H kvs xs)(k:List Key){y:V}{u:Value}(ry:RelV y u) :
  KT H (kvs.map λkv=>if kv.1=k then(kv.1,y) else kv) (xs.map (putAt k u)):=by
 induction r with
 | nil=>exact .nil
 | @cons p q ps qs h t ih =>
  rw[Ul,Ul]
  refine .cons ?_ ih
  obtain⟨h1,h2,h3⟩:=h
  unfold putAt
  by_cases e:p.1=k
  . rw[if_pos e,if_pos (h1.symm.trans e)];exact⟨h1,h2,ry⟩
  . rw[if_neg e,if_neg (λz=>e (h1.trans z))];exact⟨h1,h2,h3⟩
theorem KT.put{H:Hp}{kvs:List (List Key × V)}{xs:List (List Key × Addr × Value)}(r:KT H kvs xs)(k:List Key){b:Addr}{y:V}{u:Value}(hb:H b=some (.tup (k.map kV)))(ry:RelV y u) :
  KT H (putK kvs k y) (storedH xs k b u):=by
 have e:(kvs.any λkv=>decide (kv.1=k))=(atKey xs k).isSome:=by
  rw[uT,(r.val k).hU,Y3]
 unfold putK storedH;rw[e];by_cases q:(atKey xs k).isSome=true
 . rw[if_pos q,if_pos q];exact r.NO k ry
 . rw[if_neg q,if_neg q];exact abZ r ⟨rfl,hb,ry⟩
theorem KT.keeps{H H':Hp}{kvs:List (List Key × V)}{xs:List (List Key × Addr × Value)}(r:KT H kvs xs)(ht: ∀ b ys,H b=some (.tup ys)->H' b=some (.tup ys)):KT H' kvs xs :=
 Paired.Be r λ_ _ z=>⟨z.1,ht _ _ z.2.1,z.2.2⟩
section
variable{P:UN}{w:World}{H:Hp}{h:Heap}{a:Addr}
theorem II{u:HO}(ok:ka P w H h)(e:Rd H a u):ba P w H h a u:=e.ok ok
theorem nJ{kvs:List (Key × V)}(ok:ka P w H h)(e:Rd H a (.dK kvs)):kvs.length<=sizeLine/\(a == Vx)=false/\ ∃ vs,KV kvs vs/\h.DictOf (aH P w) a vs :=
 show ba P w H h a (.dK kvs) from II ok e
theorem vY{kvs:List (Key × V)}(ok:ka P w H h)(e:H a=some (.dK kvs)):kvs.length<=sizeLine/\(a == Vx)=false/\ ∃ vs,KV kvs vs/\h.DictOf (aH P w) a vs:=nJ ok (.inl e)
theorem mV{ks:List Key}(ok:ka P w H h)(e:H a=some (.tup (ks.map kV))):(Zl (aH P w)).is h ks a:=by
 obtain⟨_,aj,r,o,h1,h2,n,h3,_⟩:=(show ba P w H h a (.tup (ks.map kV)) from ok a _ e)
 exact⟨o,aj.toArray,n,h1,h2,h3,by simpa using rF r⟩
theorem oU{kvs:List (List Key × V)}(ok:ka P w H h)(e:Rd H a (.dT kvs)):kvs.length<=sizeLine/\(a == Vx)=false /\
  ∃ xs,KT H kvs xs/\h.DictOfH (Zl (aH P w)) a xs:=by
 obtain⟨z,y,xs,r,o,es,ep,h1,h2,h3,h4,h5⟩:=(show ba P w H h a (.dT kvs) from II ok e)
 refine⟨z,y,xs,r,o,es,ep,h1,h2,h3,h4,λx hx=>?_,h5⟩;have all: ∀{l:List (List Key × V)}{m:List (List Key × Addr × Value)},KT H l m-> ∀ x∈m,(Zl (aH P w)).is h x.1 x.2.1:=by
  intro l m q
  induction q with
  | nil=>intro x hx;exact nomatch hx
  | @cons p q ps qs hq t ih =>
   intro x hx
   rcases Uy.mp hx with e | hx
   . subst e;exact mV ok (by rw[<- hq.1];exact hq.2.1)
   . exact ih x hx
 exact all r x hx
theorem Po{kvs:List (List Key × V)}(ok:ka P w H h)(e:H a=some (.dT kvs)):kvs.length<=sizeLine/\(a == Vx)=false /\
  ∃ xs,KT H kvs xs/\h.DictOfH (Zl (aH P w)) a xs:=oU ok (.inl e)
end
noncomputable def j6(H:Hp)(a:Addr)(y:V)(r:Option V):Prop :=
 (∃ kvs k,Rd H a (.dK kvs)/\y=kV k/\r=gX kvs k)\/ ∃ kvs k b,Rd H a (.dT kvs)/\y= .ref b/\H b=some (.tup (k.map kV))/\r=gX kvs k
noncomputable def xR(H:Hp)(a:Addr)(y v:V)(H':Hp):Prop :=
 (∃ kvs k,H a=some (.dK kvs)/\y=kV k/\kvs.length < sizeLine/\H'=upd H a (.dK (putK kvs k v))) \/
 ∃ kvs k b,H a=some (.dT kvs)/\y= .ref b/\H b=some (.tup (k.map kV))/\kvs.length < sizeLine/\H'=upd H a (.dT (putK kvs k v))
theorem j6.k{H:Hp}{a:Addr}{kvs:List (Key × V)}{k:Key}(e:H a=some (.dK kvs)):j6 H a (kV k) (gX kvs k):= .inl ⟨kvs,k,.inl e,rfl,rfl⟩
theorem j6.t{H:Hp}{a b:Addr}{kvs:List (List Key × V)}{k:List Key}(e:H a=some (.dT kvs))(eb:H b=some (.tup (k.map kV))):j6 H a (.ref b) (gX kvs k):= .inr ⟨kvs,k,b,.inl e,rfl,eb,rfl⟩
theorem xR.k{H:Hp}{a:Addr}{kvs:List (Key × V)}{k:Key}{v:V}(e:H a=some (.dK kvs))(hl:kvs.length < sizeLine):xR H a (kV k) v (upd H a (.dK (putK kvs k v))):= .inl ⟨kvs,k,e,rfl,hl,rfl⟩
theorem xR.t{H:Hp}{a b:Addr}{kvs:List (List Key × V)}{k:List Key}{v:V}(e:H a=some (.dT kvs))(eb:H b=some (.tup (k.map kV)))(hl:kvs.length < sizeLine) :
  xR H a (.ref b) v (upd H a (.dT (putK kvs k v))):= .inr ⟨kvs,k,b,e,rfl,eb,hl,rfl⟩
section
variable{X:Cx}{pins:List (Addr × Obj)}{σ :St}{H:Hp}{s:Uj}{a:Addr}{y v:V}{u r:Value}{o:Option V}{A:U6}{E:Value->Uj->Prop}
theorem Inv.big(I:Inv X pins σ H s):Vx < s.heap.objs.size:=by
 have h:UI < s.heap.objs.size:=(I.mod.glob.keeps I.bk).lt;exact Ys (by decide) h
theorem zX{Q:Value->Uj->Prop}(hu:A.units+1 < cLine)(I:Inv X pins σ H s)(g:j6 H a y (some v))(ry:RelV y u)(h: ∀ w' s',Inv X pins σ H s'->RelV v w'->Q w' s') :
  wpAny (model X.prog X.w) A (Yr (.ref a) u) Q E s:=by
 rcases g with⟨kvs,k,e,ey,l⟩ | ⟨kvs,k,b,e,ey,eb,l⟩
 . subst ey;obtain⟨z,hd,vs,rel,dd⟩:=nJ I.bD e;obtain⟨w',hw,rw'⟩:=lN.some_of (v:=v) (o:=ZK vs k) (by rw[l];exact rel.val k);exact wpAny_getItem_of (lE ry) dd.mapOf hw (h w' _ (I.tok _) rw')
 . subst ey;cases(show u=UJ b from ry);obtain⟨z,hd,xs,rel,dd⟩:=oU I.bD e;obtain⟨w',hw,rw'⟩:=lN.some_of (v:=v) (o:=(atKey xs k).map (·.2)) (by rw[l];exact rel.val k)
   obtain⟨p,hp,hp2⟩:=Option.map_eq_some_iff.mp hw;refine wpAny_getItem_heap (WT hu) (mV I.bD eb) dd hp ?_;rw[hp2];exact h w' _ (I.tok _) rw'
theorem SD{Q:Value->Uj->Prop}(hu:A.units+1 < cLine)(I:Inv X pins σ H s)(g:j6 H a y o)(ry:RelV y u)(h: ∀ s',Inv X pins σ H s'->Q (.bool o.isSome) s') :
  wpAny (model X.prog X.w) A (UY .In u (.ref a)) Q E s:=by
 rcases g with⟨kvs,k,e,ey,l⟩ | ⟨kvs,k,b,e,ey,eb,l⟩
 . subst ey;obtain⟨z,hd,vs,rel,dd⟩:=nJ I.bD e;refine wpAny_in_of (lE ry) hd dd.mapOf ?_;rw[<- (rel.val k).hU,<- l];exact h _ (I.tok _)
 . subst ey;cases(show u=UJ b from ry);obtain⟨z,hd,xs,rel,dd⟩:=oU I.bD e;refine wpAny_in_heap (WT hu) (mV I.bD eb) hd dd ?_;have q:=(rel.val k).hU;rw[Y3] at q;rw[<- q,<- l];exact h _ (I.tok _)
theorem EX{Q:Value->Uj->Prop}(hu:A.units+1 < cLine)(I:Inv X pins σ H s)(g:j6 H a y o)(ry:RelV y u)(h: ∀ s',Inv X pins σ H s'->Q (.bool (!o.isSome)) s') :
  wpAny (model X.prog X.w) A (UY .NotIn u (.ref a)) Q E s:=by
 rcases g with⟨kvs,k,e,ey,l⟩ | ⟨kvs,k,b,e,ey,eb,l⟩
 . subst ey;obtain⟨z,hd,vs,rel,dd⟩:=nJ I.bD e;refine wpAny_notIn_of (lE ry) hd dd.mapOf ?_;rw[<- (rel.val k).hU,<- l];exact h _ (I.tok _)
 . subst ey;cases(show u=UJ b from ry);obtain⟨z,hd,xs,rel,dd⟩:=oU I.bD e;refine wpAny_notIn_heap (WT hu) (mV I.bD eb) hd dd ?_;have q:=(rel.val k).hU;rw[Y3] at q;rw[<- q,<- l];exact h _ (I.tok _)
theorem sU{h':Heap}{t':Nat}{ob:HO}(I:Inv X pins σ H s)(mu:P7 (H a))(hs:ZC a s.heap h')(he: ∃ q,h'.get? a=some q)(new:ba X.prog X.w (upd H a ob) h' a ob) :
  Inv X pins σ (upd H a ob) { s with heap:=h',toks:=t' } :=
 I.write (x:=a) (e:=a) mu (.inl rfl) (λb q hb z=>(hs.2 b hb).trans z) he new
theorem tU{P:UN}{w:World}{H':Hp}{h':Heap}{kvs:List (Key × V)}{vs:List (Key × Value)}(z:kvs.length<=sizeLine)(hd:(a == Vx)=false)(rel:KV kvs vs)(dd:h'.DictOf (aH P w) a vs) :
  ba P w H' h' a (.dK kvs):=⟨z,hd,vs,rel,dd⟩
theorem zM{H':Hp}{Q:Unit->Uj->Prop}(hu:A.units+1 < cLine)(I:Inv X pins σ H s)(g:xR H a y v H')(ry:RelV y u)(rv:RelV v r)(h: ∀ s',Inv X pins σ H' s'->Q () s') :
  wpAny (model X.prog X.w) A (setItem (.ref a) u r) Q E s:=by
 rcases g with⟨kvs,k,e,ey,l,eH⟩ | ⟨kvs,k,b,e,ey,eb,l,eH⟩
 . subst ey eH;obtain⟨z,hd,vs,rel,dd⟩:=vY I.bD e;have hz:vs.length<=sizeLine:=by rw[<- rel.length];exact z
   have hl:(putK kvs k v).length<=sizeLine:=by have:=jz kvs k v;omega
   refine wpAny_setItem_pairs (hsz:=hz) (lE ry) dd λh' dd' hs=>h _ ?_;have he: ∃ q,h'.get? a=some q:=let ⟨q,_,_,hq,_⟩:=dd';⟨q,hq⟩
   exact sU I (by rw[e];exact Wn) hs he (tU hl hd (rel.put k rv) dd')
 . subst ey eH;cases(show u=UJ b from ry);obtain⟨z,hd,xs,rel,dd⟩:=Po I.bD e;have hz:xs.length<=sizeLine:=by rw[<- Xp rel];exact z
   have hl:(putK kvs k v).length<=sizeLine:=by have:=jz kvs k v;omega
   refine wpAny_setItem_heap (hsz:=hz) (WT hu) (mV I.bD eb) dd λh' dd' hs=>h _ ?_;obtain⟨q,es,ep,hq,h2,h3,h4,_,h5⟩:=dd';refine sU I (by rw[e];exact Wn) hs ⟨q,hq⟩ ⟨hl,hd,_,(rel.put k eb rv).keeps λc ys ec=>?_,q,es,ep,hq,h2,h3,h4,h5⟩;rw[aB (rQ ec e (λz=>nomatch z))];exact ec
end
section
variable{X:Cx}{pins:List (Addr × Obj)}{σ :St}{H:Hp}{s:Uj}{a:Addr}{kvs:List (Key × V)}{k:Key}{u:Value}{A:U6}{E:Value->Uj->Prop}
theorem Pf{Q:Value->Uj->Prop}(I:Inv X pins σ H s)(e:Rd H a (.dK kvs))(h: ∀ t s',Inv X pins σ H s'->Q (.int kvs.length t) s'):wpAny (model X.prog X.w) A (call (.builtin "len") [.ref a]) Q E s:=by
 obtain⟨z,hd,vs,rel,dd⟩:=nJ I.bD e;refine call_len_dict hd dd (by rw[<- rel.length];rw[abu] at z;omega) ?_;rw[<- rel.length];exact h _ _ (I.tok _)
end
noncomputable def GU (i:Expr):Prop:= ∀ ov iv,YZ i false ov iv=operate [ov,iv] (Yr ov iv)
theorem Gu {prog : UN} {w : World} {A : U6} {E : Value -> Uj -> Prop} {s : Uj} {env : Env} {value slice : Expr} {pos : Pos} {T id : String} {Q : Value -> Uj -> Prop}
    (hl : typeLookup (.type T) "__getitem__" = pure (some (.builtin id))) (hs : GU slice)
    (h : wpAny (model prog w) A (eval value env) (λo s₁ => wpAny (model prog w) A (eval slice env) (λi s₂ => s₂.TypeIs o T /\ wpAny (model prog w) A (Yr o i) Q E s₂) E s₁) E s) :
    wpAny (model prog w) A (eval (.Subscript value slice pos) env) Q E s := by
  refine Subscript_ (U8 h (λo s₁ h₁ => U8 h₁ (λi s₂ h₂ => ?_) λ_ _ x => x) λ_ _ x => x);obtain ⟨hT, h₂⟩ := h₂;unfold Zc;refine Ue ?_;rw [Z4 hT.not_modules];refine Ue (ZV hT hl ?_);have fin : wpAny (model prog w) A (YZ slice false o i) (λr s₃ => wpAny (model prog w) A (letTemporaryGo value o r >>= λ_ => pure r) Q E s₃) E s₂ := by
    rw [hs o i];exact wpAny_operating (U8 h₂ (λr s₃ h₃ => Ue (aae (Us h₃))) λ_ _ x => x)
  first
    | exact Us (Ue fin)
    | exact Ue (Us (Ue fin))
    | exact Ue fin
theorem wm{X:Cx}{pins:List (Addr × Obj)}{σ :St}{H:Hp}{s:Uj}{a:Addr}{y:V}{o:Option V}(I:Inv X pins σ H s)(g:j6 H a y o):s.TypeIs (.ref a) "dict" :=by
 rcases g with⟨kvs,k,e,_,_⟩ | ⟨kvs,k,b,e,_,_,_⟩
 . obtain⟨_,_,vs,_,dd⟩:=nJ I.bD e;exact dd.typeIs
 . obtain⟨_,_,xs,_,dd⟩:=oU I.bD e;exact dd.typeIs
theorem uF{P:UN}{w:World}{H:Hp}(h:Heap)(hb:Vx < h.objs.size):ba P w H (h.push { cls:= .type "dict",data:= .dict #[] }) h.objs.size (.dK []) :=
 ⟨Vd _,beq_eq_false_iff_ne.mpr (V3 (UK hb)),[],.nil,ZW h⟩
noncomputable def DM:TE:=λ_ H Q=> ∀ p,H p=none->Q (.ref p) (upd H p (.dK []))
section
variable{X:Cx}{pos:Pos}
theorem Ea:PE X (.Dict [] [] pos) DM:=λpins s σ H Q I h =>
 wpAny_Dict_empty ⟨.ref s.heap.objs.size,_,I.laid (a:=s.heap.objs.size) (o:= .dK []) (t':=s.toks) (λ_ _ q=>Uk _ q) (Uo _) (uF s.heap I.big),rfl,h _ (I.bD.fresh (Uo _))⟩
end
noncomputable def mK:List (TE × TE)->St->Hp->(List (V × V)->Hp->Prop)->Prop
 | [],_,H,Q=>Q [] H
 | (tk,tv)::r, σ,H,Q=>tk σ H λx H1=>tv σ H1 λy H2=>mK r σ H2 λps H3=>Q ((x,y)::ps) H3
abbrev VV:List (V × V)->List (Value × Value)->Prop:=Vt λp q=>RelV p.1 q.1∧RelV p.2 q.2
noncomputable def Qn (X:Cx) (pos:Pos) (keys:List (Option Expr)) (values:List Expr) (trs:List (TE × TE)):Prop :=
 ∀ (pins:List (Addr × Obj)) (s:Uj) (σ :St) (H:Hp) (Q:List (V × V)->Hp->Prop),Inv X pins σ H s->mK trs σ H Q ->
  wpAny (model X.prog X.w) X.A (evalPairs (pairTrees keys values X.env pos)) (λvs s'=> ∃ ps H',Inv X pins σ H' s'/\VV ps vs/\Q ps H') X.xe s
theorem EN{X:Cx}{pos:Pos}:Qn X pos [] [] []:=λpins s σ H Q I h=>pairTrees_nil_walk ⟨[],H,I,.nil,h⟩
theorem C5{X:Cx}{pos:Pos}{k v:Expr}{ks:List (Option Expr)}{vs:List Expr}{tk tv:TE}{trs:List (TE × TE)}(hk:PE X k tk)(hv:PE X v tv)(hr:Qn X pos ks vs trs) :
  Qn X pos (some k::ks) (v::vs) ((tk,tv)::trs):=λpins s σ H Q I h =>
 pairTrees_cons_walk (cL (hk pins s σ H _ I h) λu s1 ⟨x,H1,I1,rx,q1⟩=>cL (hv pins s1 σ H1 _ I1 q1) λw2 s2 ⟨y,H2,I2,ry,q2⟩ =>
  cL (hr pins s2 σ H2 _ I2 q2) λws s3 ⟨ps,H3,I3,rel,q3⟩=>⟨(x,y)::ps,H3,I3,.cons ⟨rx,ry⟩ rel,q3⟩)
noncomputable def dj(kvs more:List (Key × V)):List (Key × V):=more.foldl (λacc kv=>putK acc kv.1 kv.2) kvs
theorem KV.merge: ∀{more:List (Key × V)}{rs:List (Key × Value)}{kvs:List (Key × V)}{vs:List (Key × Value)},KV more rs->KV kvs vs->KV (dj kvs more) (merged vs rs):=by
 intro more rs kvs vs r;unfold KV at r
 induction r generalizing kvs vs with
 | nil=>intro q;exact q
 | @cons p q ps qs h t ih =>
  intro r0
  have e:KV (putK kvs p.1 p.2) (stored vs q.1 q.2):=by
   have:=r0.put p.1 h.2;rw[<- h.1];exact this
  exact ih e
theorem eP: ∀(more kvs:List (Key × V)),(dj kvs more).length<=kvs.length+more.length
 | [],kvs=>by show kvs.length<=kvs.length+0;omega
 | p::r,kvs=>by
  have h1:=eP r (putK kvs p.1 p.2);have h2:=jz kvs p.1 p.2;show(dj (putK kvs p.1 p.2) r).length<=_;rw[Um];omega
theorem qc{P:UN}{w:World}: ∀{kvs:List (Key × V)}{ws:List (Value × Value)},VV (kvs.map λkv=>(kV kv.1,kv.2)) ws-> ∃ rs,Carries (aH P w) ws rs/\KV kvs rs
 | [],_,r=>by rw[UU] at r;cases r;exact⟨[],Wn,.nil⟩
 | p::kvs,_,r=>by
  rw[Ul] at r;cases r with
  | @cons a b as bs h t =>
   obtain⟨rs,c,q⟩:=qc (P:=P) (w:=w) t
   obtain⟨b1,b2⟩:=b
   exact⟨(p.1,b2)::rs,⟨lE h.1,rfl,c⟩,.cons ⟨rfl,h.2⟩ q⟩
noncomputable def Ik(trs:List (TE × TE)):TE:=fun σ H Q=> ∀ p,H p=none->mK trs σ (upd H p (.dK [])) λps H2=>H2 p=some (.dK [])/\ ∃ kvs:List (Key × V),ps=kvs.map (λkv=>(kV kv.1,kv.2))/\kvs.length<=15/\Q (.ref p) (upd H2 p (.dK (dj [] kvs)))
theorem Hj{X:Cx}{pos:Pos}{keys:List (Option Expr)}{values:List Expr}{trs:List (TE × TE)}(h:Qn X pos keys values trs)(hall:keys.all (·.isSome)=true)(hl:keys.length=values.length)(h0:keys≠[])
  (h15:keys.length<=15):PE X (.Dict keys values pos) (Ik trs):=by
 intro pins s σ H Q I q;have hn:=I.bD.fresh (Uo s.heap.objs.size);have I1:=I.laid (a:=s.heap.objs.size) (o:= .dK []) (h':=s.heap.push { cls:= .type "dict",data:= .dict #[] }) (t':=s.toks) (λ_ _ q=>Uk _ q) (Uo _) (uF s.heap I.big);refine wpAny_Dict_walk (knd:=aH X.prog X.w) hall hl h0 h15 (cL (h pins _ σ _ _ I1 (q _ hn)) λws s2 ⟨ps,H2,I2,rel,e,kvs,ep,lk,q2⟩=>?_);subst ep;obtain⟨rs,c,rk⟩:=qc (P:=X.prog) (w:=X.w) rel;obtain⟨z,hd,vs0,r0,dd⟩:=vY I2.bD e;cases r0;refine⟨rs,c,dd,λh' dd' hs=>⟨.ref s.heap.objs.size,_,?_,rfl,q2⟩⟩;have hz:(dj [] kvs).length<=sizeLine:=by
  have h1:=eP kvs [];rw[UL] at h1;rw[abu];omega
 have he: ∃ q,h'.get? s.heap.objs.size=some q:=let ⟨q,_,_,hq,_⟩:=dd';⟨q,hq⟩
 exact sU I2 (by rw[e];exact Wn) hs he (tU hz hd (rk.merge .nil) dd')
structure M1(X:Cx)(o:Expr)(m:Str)(apos:Pos)(e:Expr)(cpos:Pos):Prop where
 base:WJ o m X.env (eval o X.env)=eval o X.env
 mn:((XI cpos (U7 [e] X.env)).all (λx=> !x.1)&&(backToKw cpos (abx [] X.env)).all (λx=>x.1.isSome)
  && decide (([e]:List Expr).length+([]:List aat).length+(if ([]:List aat).isEmpty then 0 else 1) < 30))=true
 line:(apos.endLine == cpos.line)=true
 trees:XI cpos (U7 [e] X.env)=[(false,eval e X.env)]
structure M2(X:Cx)(o:Expr)(m:Str)(apos:Pos)(e f:Expr)(cpos:Pos):Prop where
 base:WJ o m X.env (eval o X.env)=eval o X.env
 mn:((XI cpos (U7 [e,f] X.env)).all (λx=> !x.1)&&(backToKw cpos (abx [] X.env)).all (λx=>x.1.isSome)
  && decide (([e,f]:List Expr).length+([]:List aat).length+(if ([]:List aat).isEmpty then 0 else 1) < 30))=true
 line:(apos.endLine == cpos.line)=true
 trees:XI cpos (U7 [e,f] X.env)=[(false,eval e X.env),(false,eval f X.env)]
noncomputable def Tu(H:Hp)(a:Addr):Prop:=(∃ kvs,Rd H a (.dK kvs))\/ ∃ kvs,Rd H a (.dT kvs)
theorem NQ{X:Cx}{pins:List (Addr × Obj)}{σ :St}{H:Hp}{s:Uj}{a:Addr}(I:Inv X pins σ H s)(d:Tu H a) :
  s.TypeIs (.ref a) "dict" /\(∀ b,UJ a= .ref b-> ∃ ob,s.heap.get? b=some ob/\ob.dict=none)/\(a == Vx)=false:=by
 rcases d with⟨kvs,e⟩ | ⟨kvs,e⟩
 . obtain⟨_,hd,vs,_,dd⟩:=nJ I.bD e;refine⟨dd.typeIs,λb q=>?_,hd⟩;cases q;obtain⟨ob,_,_,h1,h2,_⟩:=dd;exact⟨ob,h1,h2.2.1⟩
 . obtain⟨_,hd,xs,_,dd⟩:=oU I.bD e;refine⟨dd.typeIs,λb q=>?_,hd⟩;cases q;obtain⟨ob,_,_,h1,h2,_⟩:=dd;exact⟨ob,h1,h2.2.1⟩
section
variable{X:Cx}{pins:List (Addr × Obj)}{σ :St}{H:Hp}{s:Uj}{a:Addr}{y d:V}{u r:Value}{o:Option V}{A:U6}{E:Value->Uj->Prop}
theorem Ln{Q:Value->Uj->Prop}(hu:A.units+1 < cLine)(I:Inv X pins σ H s)(g:j6 H a y o)(ry:RelV y u)(rd:RelV d r)(h: ∀ w' s',Inv X pins σ H s'->RelV (o.getD d) w'->Q w' s') :
  wpAny (model X.prog X.w) A (call (.builtin "dict.get") [.ref a,u,r]) Q E s:=by
 rcases g with⟨kvs,k,e,ey,l⟩ | ⟨kvs,k,b,e,ey,eb,l⟩
 . subst ey;obtain⟨z,hd,vs,rel,dd⟩:=nJ I.bD e;refine call_meetsIn XY dd.typeIs ZL (Zq _ _ _) (meets_dict_get_default (aH X.prog X.w) a (lE ry) hd r) ⟨_,dd.mapOf,h _ _ (I.tok _) ?_⟩;rw[l];exact(rel.val k).getD rd
 . subst ey;cases(show u=UJ b from ry);obtain⟨z,hd,xs,rel,dd⟩:=oU I.bD e;refine call_meetsIn XY dd.typeIs ZL (Zq _ _ _) (meetsH_dict_get_default (Zl (aH X.prog X.w)) a b hd r) ⟨WT hu,k,xs,mV I.bD eb,dd,h _ _ (I.tok _) ?_⟩;rw[l];exact(rel.val k).getD rd
end
noncomputable def Cm(td ty tx:TE):TE:=fun σ H Q=>td σ H λx H1=> ∃ a,x= .ref a/\Tu H1 a/\ty σ H1 λy H2=>tx σ H2 λz H3=> ∃ o,j6 H3 a y o/\Q (o.getD z) H3
section
variable{X:Cx}{o e f:Expr}{apos cpos:Pos}{td ty tx:TE}
theorem D7(hu:X.A.units+1 < cLine)(ho:PE X o td)(he:PE X e ty)(hf:PE X f tx)(m:M2 X o "get" apos e f cpos):PE X (.Call (.Attribute o "get" apos) [e,f] [] cpos) (Cm td ty tx):=by
 intro pins s σ H Q I h;refine wpAny_Call_method m.base m.mn m.line PySem.F.plainAttrs_dict XY PySem.F.type_dict_get (cL (ho pins s σ H _ I h) λu s1 ⟨x,H1,I1,rx,a,ex,d,q1⟩=>?_);subst ex;obtain rfl:u=UJ a:=rx;obtain⟨t1,t2,_⟩:=NQ I1 d;refine⟨t1,t2,?_⟩;rw[m.trees];refine XQ rfl (Yc (XA (cL (he pins s1 σ H1 _ I1 q1) λiv s2 ⟨y,H2,I2,ry,q2⟩ =>
  XA (cL (hf pins s2 σ H2 _ I2 q2) λfv s3 ⟨z,H3,I3,rz,ov,g,q3⟩=>YY ?_))))
 exact Ln hu I3 g ry rz λw' s4 I4 rw'=>⟨_,H3,I4,rw',q3⟩
end
section
variable{X:Cx}
theorem Ag:aV X (.builtin "len") (λxs H Q=> ∃ a kvs,xs=[V.ref a]/\H a=some (.dK kvs)/\Q (.int kvs.length) H):=by
 intro pins s σ H xs us Q I r h;obtain⟨a,kvs,rfl,ha,q⟩:=h;obtain⟨u,rfl,ru⟩:=vals1 r;cases ru;exact Pf I (.inl ha) λt s' I'=>⟨.int kvs.length,H,I',⟨t,rfl⟩,q⟩
end
noncomputable def mask(n:Str):Str:=⟨n.cps.push 0⟩
noncomputable def iO(sc fn:List (Str × WW))(N vars:List Str):Bool :=
 sc.all (λp=>(p.2 != .cell||sc.lookup p.1 == some .cell)&&(p.2 != .free||(fn.lookup p.1 == some .cell||fn.lookup p.1 == some .free))&&(p.2 != .local||sc.lookup p.1 == some .local)) &&
 N.all (λn=>vars.contains n||(sc.lookup n !=some .local&&sc.lookup n !=some .cell))&&vars.all (λv=>sc.lookup (mask v) == none)
noncomputable def pF (N vars:List Str):List Str:=N.map (λn=>if vars.contains n then mask n else n)++vars
noncomputable def fk (X:Cx) (vars:List Str) (scope:Scope) (cl:List (Str × Addr)) (C:Addr) (s₀ :Uj) (H₀ :Hp) (ex:List Addr) (pn:List (Addr × Obj)):Cx :=
 { X with N:=pF X.N vars,env:=We scope cl C X.env,s₀ :=s₀,H₀ :=H₀,outer:=X.stack,ex:=ex,fn:=λx=>scope.names.lookup x == some .cell,pn:=pn }
theorem j8 (f : Str -> WW -> WW) (x : Str) : ∀ names : List (Str × WW), (names.map λp => (p.1, f p.1 p.2)).lookup x = (names.lookup x).map (f x)
  | [] => rfl
  | p :: r => by
    have ih := j8 f x r;rw [Ul, Wj, Wj, ih];cases q : x == p.1 with
    | true => obtain rfl : x = p.1 := by simpa using q
              rfl
    | false => rfl
theorem i6 {env:Env} {names:List (Str × WW)} {x:Str} :
  (names.map λ(n,k)=>if (k == Wh&&env.scope.kind == .function&&env.kindOf n == some .cell) then (n,Wi) else (n,k)).lookup x =
   (names.lookup x).map λk=>if (k == Wh&&env.scope.kind == .function&&env.kindOf x == some .cell) then Wi else k:=by
 rw[<- j8 (λn k=>if (k == Wh&&env.scope.kind == .function&&env.kindOf n == some .cell) then Wi else k) x names];congr 2
 funext p
 obtain⟨n,k⟩:=p;show(if _ then _ else _)=_;split<;>rename_i z<;>simp[z]
theorem lookup_mem{β :Type}{x:Str}{c: β}: ∀{l:List (Str × β)},l.lookup x=some c->(x,c)∈l
 | [],h=>by simp at h
 | p::r,h=>by
  rw[Wj] at h;cases q:x == p.1 with
  | true =>
   rw[q] at h
   obtain rfl:x=p.1:=by simpa using q
   obtain rfl:p.2=c:=by simpa using h
   exact Uv
  | false=>rw[q] at h;exact Uz _ (lookup_mem h)
theorem gB{β :Type}{x:Str}{c: β}: ∀{l:List (Str × β)},(x,c)∈l-> ∃ d,l.lookup x=some d
 | [],h=>nomatch h
 | (n,k)::r,h=>by
  cases hx:x == n with
  | true=>exact⟨k,by simp only[Wj,hx]⟩
  | false =>
   have h':(x,c)∈r:=by
    rcases Uy.mp h with e | e
    . cases e;simp at hx
    . exact e
   obtain⟨d,q⟩:=gB h'
   exact⟨d,by simp only[Wj,hx];exact q⟩
theorem kn{env:Env}: ∀(names:List (Str × WW))(acc:List (Str × Addr)),(∀ p∈names,p.2= .free-> ∃ c,env.cells.lookup p.1=some c) ->
  ∃ cl,(forIn names acc λ(x:Str × WW) (r:List (Str × Addr))=>(match x with | (name,kind)=>if (kind == Wh)=true then do let a <- cellOf env name;pure (WX ((name,a)::r)) else pure (WX r):Sem (ForInStep (List (Str × Addr)))))=pure cl /\
   (∀ p∈cl,p∈acc\/env.cells.lookup p.1=some p.2)/\(∀ p∈acc,p∈cl)/\ ∀ p∈names,p.2= .free-> ∃ c,(p.1,c)∈cl
 | [],acc,_=>⟨acc,rfl,λp h=> .inl h,λp h=>h,λp h=>nomatch h⟩
 | (n,k)::r,acc,h=>by
  by_cases hk:(k == Wh)=true
  . obtain⟨c,hc⟩:=h (n,k) Uv (by simpa using hk);obtain⟨cl,e,h1,h2,h3⟩:=kn r ((n,c)::acc) λp hp=>h p (Uz _ hp);refine⟨cl,?_,λp hp=>?_,λp hp=>h2 p (Uz _ hp),λp hp hf=>?_⟩
    . rw[WY];have z:cellOf env n=pure c:=by unfold cellOf;have hc':env.cells.lookup n=some c:=hc;rw[hc']
      simp only[hk,if_true,z];exact e
    . rcases h1 p hp with q | q
      . rcases Uy.mp q with q | q
        . exact .inr (by rw[q];exact hc)
        . exact .inl q
      . exact .inr q
    . rcases Uy.mp hp with q | q
      . exact⟨c,by rw[q];exact h2 _ Uv⟩
      . exact h3 p q hf
  . obtain⟨cl,e,h1,h2,h3⟩:=kn r acc λp hp=>h p (Uz _ hp);refine⟨cl,?_,h1,h2,λp hp hf=>?_⟩
    . rw[WY];simp only[if_neg hk];exact e
    . rcases Uy.mp hp with q | q
      . rw[q] at hf;exact absurd (by simpa using hf) hk
      . exact h3 p q hf
theorem oY{env:Env}{scope:Scope}(h: ∀ p∈scope.names,p.2= .free-> ∃ c,env.cells.lookup p.1=some c) :
  ∃ cl,closureFor scope env=pure cl/\(∀ x c,cl.lookup x=some c->env.cells.lookup x=some c)/\ ∀ x,scope.names.lookup x=some .free-> ∃ c,cl.lookup x=some c:=by
 obtain⟨cl,e,h1,_,h3⟩:=kn scope.names [] h;refine⟨cl,?_,λx c q=>?_,λx q=>?_⟩
 . unfold closureFor;show(forIn scope.names ([]:List (Str × Addr)) _ >>= λr=>pure r)=_
   erw [e]
   rfl
 . rcases h1 _ (lookup_mem q) with z | z
   . cases z
   . exact z
 . obtain⟨c,q'⟩:=h3 _ (lookup_mem q) rfl;exact gB q'
theorem wX: ∀(names:List (Str × WW))(h:Heap)(acc:List (Str × Addr))(x:Str)(c:Addr),(WA h.objs.size names acc).lookup x=some c ->
  ((x,Wi) ∉ names/\acc.lookup x=some c)\/((x,Wi)∈names/\h.objs.size<=c/\(Zr h names).IsCell c none)
 | [],_,_,_,_,e=> .inl ⟨λz=>(nomatch z),e⟩
 | (name,kind)::r,h,acc,x,c,e=>by
  unfold WA at e;unfold Zr;split at e
  . rename_i hk;have hk':kind= .cell:=by simpa using hk
    subst hk';rw[if_pos hk];have hz:(h.push { cls:= .type "cell",data:= .cell none }).objs.size=h.objs.size+1:=Vy ..;rw[<- hz] at e;rcases wX r _ _ x c e with⟨n,q⟩ | ⟨m,le,q⟩
    . rw[Wj] at q;cases hx:x == name with
      | true =>
       rw[hx] at q
       cases q
       rw[show x=name by simpa using hx]
       exact .inr ⟨Uv,Uo _,_,ZX _ _ _ _ (UB _ rfl),rfl⟩
      | false =>
       rw[hx] at q
       refine .inl ⟨λz=>?_,q⟩
       rcases Uy.mp z with w | w
       . cases w;simp at hx
       . exact n w
    . exact .inr ⟨Uz _ m,by rw[hz] at le;exact Nat.le_of_succ_le le,q⟩
  . rename_i hk;rw[if_neg hk];rcases wX r h acc x c e with⟨n,q⟩ | ⟨m,q⟩
    . refine .inl ⟨λz=>?_,q⟩;rcases Uy.mp z with w | w
      . cases w;simp at hk
      . exact n w
    . exact .inr ⟨Uz _ m,q⟩
theorem xH{lo:Nat}: ∀(names:List (Str × WW))(n:Nat)(acc:List (Str × Addr)),(∀ x y c,acc.lookup x=some c->acc.lookup y=some c->lo<=c->x=y)->(∀ x c,acc.lookup x=some c->c < n) ->
  ∀ x y c,(WA n names acc).lookup x=some c->(WA n names acc).lookup y=some c->lo<=c->x=y
 | [],_,_,h,_=>h
 | (name,kind)::r,n,acc,h,hn=>by
  unfold WA;split
  . have at_: ∀ z d,((name,n)::acc).lookup z=some d->(z=name/\d=n)\/acc.lookup z=some d:=λz d e=>by
     rw[Wj] at e;cases hz:z == name with
     | true=>rw[hz] at e;cases e;exact .inl ⟨by simpa using hz,rfl⟩
     | false=>rw[hz] at e;exact .inr e
    refine xH r (n+1) _ (λx y c e1 e2 hl=>?_) λx c e=>?_
    . rcases at_ x c e1 with⟨a,b⟩ | a<;>rcases at_ y c e2 with⟨a',b'⟩ | a'
      . rw[a,a']
      . exact absurd (hn y c a') (by rw[b];exact Vb _)
      . exact absurd (hn x c a) (by rw[b'];exact Vb _)
      . exact h x y c a a' hl
    . rcases at_ x c e with⟨_,b⟩ | a
      . rw[b];exact X3 _
      . exact W8 (hn x c a)
  . exact xH r n acc h hn
theorem qL{M:Model}{A:U6}{E:Value->Uj->Prop}{s:Uj}{scope:Scope}{globals:Addr}{cl:List (Str × Addr)}{qual:Str}{outer:Env}{Q:Env->Uj->Prop}
  (h:Q { scope:=scope,locals:=s.heap.objs.size,globals:=globals,cells:=WA (s.heap.objs.size+1) scope.names cl,qual:=qual,func:=none,code:=outer.code,frame:=outer.frame,builtins:=outer.builtins }
   { s with heap:=Zr (s.heap.push { cls:= .type "dict",data:= .dict #[] }) scope.names }):wpAny M A (aaf scope globals cl [] qual none .none (some outer)) Q E s:=by
 simp only[aaf,aaS,if_true];refine Ue (wpAny_alloc (Ue (wpAny_layCells _ (λname kind cells=>by cases hkc:kind == Wi<;>simp[hkc]) _ _ _ _ ?_)));rw[show({ s with heap:=s.heap.push { cls:= .type "dict",data:= .dict #[] } }:Uj).heap.objs.size=s.heap.objs.size+1 from Vy ..];exact Ue (by rw[abK];exact Us (Us h))
noncomputable def EO(cs:List Expr)(v:Env):Sem Bool :=
 forIn cs true λc r=>if r=true then(abe c v (eval c v) >>= λok=>pure (WX ok)) else pure (WX r)
noncomputable def xK(M:Model)(A:U6)(v:Env)(e:Expr)(acc:Value)(X:Value->Uj->Prop)(D:Uj->Prop):Bool->Uj->Prop:=λok u=>if ok=true then
  wpAny M A (eval e v) (λx u1=>wpAny M A (call (.builtin "list.append") [acc,x]) (λ_ u2=>D u2) X u1) X u
 else D u
noncomputable def KC(M:Model)(A:U6)(v:Env)(tg e:Expr)(cs:List Expr)(it acc:Value)(X:Value->Uj->Prop)(D:Uj->Prop)(i:Value)(u:Uj):Prop :=
 wpAny M A (Yj tg it i) (λ_ u1=>wpAny M A (XJ tg v i) (λ_ u2=>wpAny M A (EO cs v) (xK M A v e acc X D) X u2) X u1) X u
theorem pU{prog:UN}{w:World}{A:U6}{R:Result->Uj->Prop}{s:Uj}{elt target iter:Expr}{ifs:List Expr}{scope:Scope}{pos:Pos}{it acc:Value}{env:Env}(I:Nat->Uj->Prop)
  (turn: ∀ k u,I k u->wpAny (model prog w) A (abf it) (λr u1=>match r with
   | none=>R (.ok .next) u1
   | some i=>KC (model prog w) A env target elt ifs it acc (notedBy (model prog w) A env λe s'=>R (.error e) s') (λu2=> ∃ m,m < k/\I m u2) i u1) (notedBy (model prog w) A env λe s'=>R (.error e) s') u)
  (n:Nat) (h:I n s):ZE (model prog w) A (.compLoop (.ListComp elt [⟨target,iter,ifs,0⟩] scope pos) 0 it acc env) R s:=by
 refine codeAny_loop rfl I (λk u hu=>wpAny_noted (m:=compTurn (.ListComp elt [⟨target,iter,ifs,0⟩] scope pos) 0 it acc env) ?_) n h;rw[compTurn_list];refine Ue (aaE (Ue (U8 (turn k u hu) (λr u1 g=>?_) λ_ _ z=>z)))
 match r,g with
 | none,g=>exact Us g
 | some i,g =>
  refine Ue (U8 g (λ_ _ g=>Ue (U8 g (λ_ _ g=>Ue (U8 g (λok u4 g=>?_) λ_ _ z=>z)) λ_ _ z=>z)) λ_ _ z=>z)
  match ok,g with
  | false,g=>exact Us (abk rfl g)
  | true,g=>exact Ue (Ue (U8 g (λ_ _ g=>Ue (U8 g (λ_ _ g=>Us (Us (abk rfl g))) λ_ _ z=>z)) λ_ _ z=>z))
noncomputable def PF(X:Cx)(ifs:List Expr)(t:TT):Prop :=
 ∀(pins:List (Addr × Obj))(s:Uj)(σ :St)(H:Hp)(Q:Bool->Hp->Prop),Inv X pins σ H s->t σ H Q ->
  wpAny (model X.prog X.w) X.A (forIn ifs true λc r=>if r=true then do let ok <- abe c X.env (eval c X.env);pure (WX ok) else pure (WX r)) (TP X pins σ Q) X.xe s
noncomputable def IT:TT:=λ_ H Q=>Q true H
theorem Kr{X:Cx}:PF X [] IT:=λ_ _ σ H Q I h=>wpAny_tests_nil ⟨H,I,h⟩
theorem LK{X:Cx}{c:Expr}{t:TT}(h:PT X c t):PF X [c] t:=λpins s σ H Q I q=>wpAny_tests_one (h pins s σ H Q I q)
noncomputable def RE(k:Nat)(wi:TI)(g:TG)(tt:TT)(te:TE):TE:=fun σ H Q=>wi σ H λJ H1=> ∃ W:Nat->Nat->List V->Hp->Prop,(∃ m,W 0 m [] H1)/\ ∀ i m ys H,W i m ys H ->
 (J.stop i H/\ ∀ p,H p=none->Q (.ref p) (upd H p (.lst ys))) \/
 (J.go i H/\ys.length < sizeLine/\ ∀ x H',J.Ja i H x H'->g x (σ ++Up k none) H' fun σ2 H2=>tt σ2 H2 λb H3 =>
  if b=true then te σ2 H3 λy H4=> ∃ m',m' < m/\W (i+1) m' (ys++[y]) H4 else ∃ m',m' < m/\W (i+1) m' ys H3)
section
variable{X:Cx}{pins:List (Addr × Obj)}{σ :St}{H:Hp}{s:Uj}{scope:Scope}{vars:List Str}{cl:List (Str × Addr)}
theorem iy(h:iO scope.names X.env.scope.names X.N vars=true): ∀ p∈scope.names,(p.2= .cell->scope.names.lookup p.1=some .cell)/\(p.2= .free->X.env.kindOf p.1=some .cell\/X.env.kindOf p.1=some .free)/\(p.2= .local->scope.names.lookup p.1=some .local):=by
 intro p hp;unfold iO at h;simp only[UD,X5] at h;obtain⟨⟨h1,_⟩,_⟩:=h;have q:=h1 p hp;simp only[WZ,bne_iff_ne,ne_eq,beq_iff_eq] at q;obtain⟨⟨q1,q2⟩,q3⟩:=q;refine⟨λe=>?_,λe=>?_,λe=>?_⟩
 . rcases q1 with z | z
   . exact absurd e z
   . exact z
 . rcases q2 with z | z
   . exact absurd e z
   . exact z
 . rcases q3 with z | z
   . exact absurd e z
   . exact z
theorem Ju(h:iO scope.names X.env.scope.names X.N vars=true): ∀ n∈X.N,¬ n∈vars->scope.names.lookup n≠some .local/\scope.names.lookup n≠some .cell:=by
 intro n hn hv;unfold iO at h;simp only[UD,X5] at h;obtain⟨⟨_,h2⟩,_⟩:=h;have q:=h2 n hn;simp only[WZ,UD,bne_iff_ne,ne_eq,List.contains_iff_mem] at q;exact q.resolve_left hv
theorem AG(h:iO scope.names X.env.scope.names X.N vars=true): ∀ n∈vars,scope.names.lookup (mask n)=none:=by
 intro n hn;unfold iO at h;simp only[UD,X5] at h;simpa using h.2 n hn
theorem Inv.fk{C:Addr}{h':Heap}{t':Nat}{m':Str->Option Value}{fp:List Addr}(I:Inv X pins σ H s)(hkind:scope.kind= .function)(hlc:iO scope.names X.env.scope.names X.N vars=true)
  (hc1: ∀ x c,cl.lookup x=some c->(scope.names.lookup x≠some .cell/\X.env.cells.lookup x=some c)\/(scope.names.lookup x=some .cell/\s.heap.objs.size<=c/\h'.IsCell c none)) (hc2: ∀ x,scope.names.lookup x=some .free\/scope.names.lookup x=some .cell-> ∃ c,cl.lookup x=some c)
  (hci: ∀ x y c,cl.lookup x=some c->cl.lookup y=some c->s.heap.objs.size<=c->x=y)
  (hfp: ∀ b∈fp,nW X pins H b) (hfo: ∀ b∈fp,∃ o,s.heap.get? b=some o) (hC:s.heap.objs.size<=C) (hn:h'.Ns C m') (k: ∀ b o,s.heap.get? b=some o->h'.get? b=some o) :
  Inv (fk X vars scope cl C s H fp (X.pn++pins)) [] (σ ++Up vars.length none) H { s with heap:=h',toks:=t' }:=by
 have hHC:H C=none:=I.bD.fresh hC;have lt: ∀ x c,X.env.cells.lookup x=some c->c < s.heap.objs.size:=λx c e=>by obtain⟨v,q⟩:=I.cell x c e;exact q.lt
 refine⟨?ok,rfl,I.bare,Un.kept k,⟨m',hn,?loc⟩,λx c e=>?cell,hHC,λx c e=>(hc1 x c e).elim (λz=>I.jw x c z.2) (λz=>I.bD.fresh z.2.1),?pin,I.bD.kept k,?len⟩
 case ok =>
  refine{ mod:=I.ok.mod,kind:=?_,glob:=I.ok.glob,blt:=I.ok.blt,above:=hC,inj:=?_,has:=?_,N5:=?_,hd:=I.ok.hd,frames:=I.ok.frames,OS:= .inl rfl,SY:=?_,bs:=I.bs,EJ:=UO I.ok.EJ I.sz,Ao:=?_,Cb:=?_,mT:=I.stack,IL:=I.zr }
  . exact hkind
  . intro x y c e1 e2;rcases hc1 x c e1 with z | z
    . rcases hc1 y c e2 with w | w
      . exact I.ok.inj x y c z.2 w.2
      . exact absurd (Ut (lt x c z.2) w.2.1) (Vb _)
    . exact hci x y c e1 e2 z.2.1
  . intro x hx;have hx':(We scope cl C X.env).kindOf x=some .cell\/(We scope cl C X.env).kindOf x=some .free:=hx;have e:(We scope cl C X.env).kindOf x=(scope.names.lookup x).map λk=>if (k == Wh&&X.env.scope.kind == .function&&X.env.kindOf x == some .cell) then Wi else k:=i6
    rw[e] at hx';cases q:scope.names.lookup x with
    | none=>rw[q] at hx';simp at hx'
    | some kd =>
     have hm:=iy (X:=X) hlc _ (lookup_mem q)
     by_cases hf:kd= .free
     . subst hf;exact hc2 x (.inl q)
     . rw[q] at hx';have hf':(kd == Wh)=false:=by simpa using hf
       simp only[WB,hf',aac,Wq,if_false,W9] at hx';rcases hx' with z | z
       . exact hc2 x (.inr (by rw[q,z]))
       . exact absurd z hf
  . intro x c hx e;have hx':(scope.names.lookup x == some Wi)=true:=hx;rcases hc1 x c e with z | z
    . exact absurd (by simpa using hx') z.1
    . exact z.2.1
  . intro b hb;have f:=hfp b hb;obtain⟨o,e⟩:=hfo b hb;exact⟨UK (Ut (Ux e) hC),λx c e z=>(hc1 x c e).elim (λw=>f.2.2.2.2.1 x c w.2 z) (λw=>absurd (Ut (Ux (z ▸ ‹_› :s.heap.get? c=some o)) w.2.1) (Vb _))⟩
  . intro b o e hb;have f:=hfp b hb;rcases f.2.2.2.1 with z | z
    . exact I.ok.Ao b o e z
    . exact absurd (Ut (Ux (I.ok.bs b o e).1) z) (Vb _)
  . intro b hb z;have f:=hfp b hb;rcases Uy.mp (I.mF b z) with q | q
    . exact f.2.1 q
    . exact f.2.2.1 q
 case loc =>
  intro i x v e1 e2 e3
  have e1':(pF X.N vars)[i]?=some x:=e1
  have e:(We scope cl C X.env).scope.names.lookup x=(scope.names.lookup x).map λk=>if (k == Wh&&X.env.scope.kind == .function&&X.env.kindOf x == some .cell) then Wi else k:=i6
  by_cases hi:i < σ.length
  . rw[U4 hi] at e2;unfold pF at e1';rw[U4 (by rw[Ui,<- I.len];exact hi),UA] at e1';cases q:X.N[i]? with
    | none=>rw[q] at e1';cases e1'
    | some n =>
     rw[q] at e1'
     have e1'':(if vars.contains n=true then mask n else n)=x:=Vg e1'
     have vis:(scope.names.lookup x).isSome=true:=by
      unfold N7 at e3;have e3':(We scope cl C X.env).scope.names.lookup x=some .local\/(We scope cl C X.env).scope.names.lookup x=some .cell\/(We scope cl C X.env).scope.names.lookup x=some .free:=e3;rw[e] at e3';cases z:scope.names.lookup x with
      | none=>rw[z] at e3';simp at e3'
      | some _=>rfl
     by_cases hv:n∈vars
     . rw[if_pos (by simpa using hv)] at e1'';have:=AG (X:=X) hlc n hv;rw[e1''] at this;rw[this] at vis;cases vis
     . rw[if_neg (by simpa using hv)] at e1'';subst e1'';have nl:=Ju (X:=X) hlc n (Uq q) hv;cases z:scope.names.lookup n with
       | none=>rw[z] at vis;cases vis
       | some kd =>
        have hm:=iy (X:=X) hlc _ (lookup_mem z)
        have hkd:kd= .free:=by
         unfold N7 at e3;have e3':(We scope cl C X.env).scope.names.lookup n=some .local\/(We scope cl C X.env).scope.names.lookup n=some .cell\/(We scope cl C X.env).scope.names.lookup n=some .free:=e3;rw[e,z] at e3';by_cases hf:kd= .free
         . exact hf
         . have hf':(kd == Wh)=false:=by simpa using hf
           simp only[WB,hf',aac,Wq,if_false,W9] at e3';rcases e3' with y | y | y
           . rw[y] at z;exact absurd z nl.1
           . rw[y] at z;exact absurd z nl.2
           . exact y
        subst hkd
        have kk:=hm.2.1 rfl
        obtain⟨m,_,hl⟩:=I.loc
        obtain⟨u,r,look⟩:=hl i n v q e2 (.inr kk)
        obtain⟨c,hcl⟩:=hc2 n (.inl z)
        have hco:X.env.cells.lookup n=some c:=(hc1 n c hcl).elim (·.2) (λw=>by rw[z] at w;exact nomatch w.1)
        have look': ∃ c,X.env.cells.lookup n=some c/\s.heap.IsCell c (some u):=by
         rcases look with⟨y,_⟩ | ⟨_,y⟩
         . rcases kk with w | w<;>(rw[w] at y;cases y)
         . exact y
        obtain⟨c',hc',⟨o,ho,hd⟩⟩:=look'
        have ec:c=c':=Vg (hco.symm.trans hc')
        subst ec
        refine⟨u,r,.inr ⟨?_,c,hcl,o,k c o ho,hd⟩⟩
        show(We scope cl C X.env).scope.names.lookup n=some .cell\/(We scope cl C X.env).scope.names.lookup n=some .free
        rw[e,z]
        simp only[WB]
        split
        . exact .inl rfl
        . exact .inr rfl
  . rw[UM (aaT.mp hi),WO] at e2;split at e2<;>cases e2
 case cell =>
  rcases hc1 x c e with z | z
  . obtain⟨v,o,ho,hd⟩:=I.cell x c z.2;exact⟨v,o,k c o ho,hd⟩
  . exact⟨none,z.2.2⟩
 case pin =>
  intro p hp
  have hp':p∈X.pn++pins:=by simpa [L2.fk] using hp
  obtain⟨e,n,ne,nf,d⟩:=I.pin p hp'
  refine⟨k _ _ e,n,UK (Ut (Ux e) hC),λz=>?_,d⟩
  rcases Uy.mp (I.mF p.1 z) with q | q
  . exact ne q
  . exact nf q
 case len =>
  show(σ ++Up vars.length none).length=(pF X.N vars).length
  unfold pF
  rw[Uu,Uu,Ui,Z1,I.len]
end
noncomputable def GK(n:Nat)(g:TG):Prop:= ∀ x σ H Q,g x σ H Q->g x σ H fun σ2 H2=>Q σ2 H2/\ ∀ j,j < n-> σ2[j]?= σ[j]?
noncomputable def Oz(n:Nat)(g:uA):Prop:= ∀ xs σ H Q,g xs σ H Q->g xs σ H fun σ2 H2=>Q σ2 H2/\ ∀ j,j < n-> σ2[j]?= σ[j]?
noncomputable def sV(g:TG):Prop:= ∀ x σ H Q Q',(∀ σ2 H2,Q σ2 H2->Q' σ2 H2)->g x σ H Q->g x σ H Q'
theorem HQ{n i:Nat}(h:n<=i):GK n (eA i):=λx σ H Q q=>⟨q,λj hj=>Vm (by omega)⟩
theorem yp{i:Nat}:sV (eA i):=λx σ H Q Q' f q=>f _ _ q
theorem KJ{n:Nat}:Oz n yt:=λxs σ H Q q=>⟨q.1,q.2,λ_ _=>rfl⟩
theorem G5{n:Nat}{g:TG}{gs:uA}(h:GK n g)(hm:sV g)(hs:Oz n gs):Oz n (jB g gs):=λxs σ H Q q=>by
 obtain⟨v,r,e,z⟩:=q;refine⟨v,r,e,hm _ _ _ _ _ (fun σ2 H2 y=>?_) (h _ _ _ _ z)⟩;have y':=hs _ _ _ _ y.1;have:(fun σ3 H3=>(Q σ3 H3/\ ∀ j,j < n-> σ3[j]?= σ2[j]?))=fun σ3 H3=>(Q σ3 H3/\ ∀ j,j < n-> σ3[j]?= σ[j]?):=by
  funext σ3 H3
  exact propext ⟨λw=>⟨w.1,λj hj=>(w.2 j hj).trans (y.2 j hj)⟩,λw=>⟨w.1,λj hj=>(w.2 j hj).trans (y.2 j hj).symm⟩⟩
 rw[this] at y';exact y'
theorem NP{K:Ud}{n m:Nat}{gs:uA}(hs:Oz n gs):GK n (wb K m gs):=λx σ H Q q=>by
 obtain⟨a,xs,e,h1,h2,h3⟩:=q;exact⟨a,xs,e,h1,h2,hs _ _ _ _ h3⟩
section
variable{X:Cx}{scope:Scope}{vars:List Str}{elt tg iter:Expr}{ifs:List Expr}{pos:Pos}{wi:TI}{g:TG}{tt:TT}{te:TE}
theorem pA{pins:List (Addr × Obj)}{σ :St}{H2:Hp}{s2:Uj}{cl:List (Str × Addr)}{it:Addr}{fp:List Addr}{tn:Nat->Heap->Prop}{J:It}{RR:Value->Addr->Result->Uj->Prop}{Q:VK}{E:Value->Uj->Prop}
  (hc:X.calm=true) (hx: ∀ v s,¬ X.xe v s) (hkind:scope.kind= .function) (hlc:iO scope.names X.env.scope.names X.N vars=true)
  (hb: ∀ cl C s₀ H₀ ex pn,PG (fk X vars scope cl C s₀ H₀ ex pn) tg g/\PF (fk X vars scope cl C s₀ H₀ ex pn) ifs tt/\PE (fk X vars scope cl C s₀ H₀ ex pn) elt te) (hgk:GK X.N.length g)
  (hc1: ∀ x c,cl.lookup x=some c->X.env.cells.lookup x=some c) (hc2: ∀ x,scope.names.lookup x=some .free-> ∃ c,cl.lookup x=some c)
  (I2:Inv X pins σ H2 s2) (T:Turn X.prog X.w X.K tg J fp it tn) (st2:tn 0 s2.heap) (f2: ∀ b∈fp,nW X pins H2 b)
  {W:Nat->Nat->List V->Hp->Prop} {m0:Nat} (w0:W 0 m0 [] H2)
  (turn: ∀ i m ys H,W i m ys H->(J.stop i H/\ ∀ p,H p=none->Q (.ref p) (upd H p (.lst ys))) \/
   (J.go i H/\ys.length < sizeLine/\ ∀ x H',J.Ja i H x H'->g x (σ ++Up vars.length none) H' fun σ2 H2=>tt σ2 H2 λb H3 =>
    if b=true then te σ2 H3 λy H4=> ∃ m',m' < m/\W (i+1) m' (ys++[y]) H4 else ∃ m',m' < m/\W (i+1) m' ys H3))
  (hRR: ∀ D C s4 H4 ys m,Inv X pins σ (upd H4 D (.lst ys)) s4->s4.heap.Ns C m->H4 D=none->(upd H4 D (.lst ys)) C=none->C≠X.env.locals->X.s₀.heap.objs.size<=C->(∀ x c,X.env.cells.lookup x=some c->c≠C)->(∀ p∈X.pn++pins,p.1≠C) ->
   Q (.ref D) (upd H4 D (.lst ys))->RR (.ref D) C (.ok .next) s4) :
  wpAny (model X.prog X.w) X.A (newList []) (λacc s₃ =>wpAny (model X.prog X.w) X.A (aaf scope X.env.globals cl [] X.env.qual none .none (some X.env)) (λcenv s₄ =>
   ZE (model X.prog X.w) X.A (.compStart (.ListComp elt [⟨tg,iter,ifs,0⟩] scope pos) 0 (.ref it) acc { cenv with scope:=relabel scope X.env }) (RR acc cenv.locals) s₄) E s₃) E s2:=by
 refine VG (qL ?_);dsimp only;generalize hH2:s2.heap.push { cls:= .type "list",dict:=none,data:= .seq ([]:List Value).toArray }=P2;have hC:P2.objs.size=s2.heap.objs.size+1:=by rw[<- hH2,Vy]
 have hDC:s2.heap.objs.size≠P2.objs.size:=by rw[hC];exact UK (X3 _)
 have hCle:s2.heap.objs.size<=P2.objs.size:=by rw[hC];exact Y0 _
 have hz:(P2.push { cls:= .type "dict",data:= .dict #[] }).objs.size=P2.objs.size+1:=Vy ..;have cn:=wX scope.names (P2.push { cls:= .type "dict",data:= .dict #[] }) cl;rw[hz] at cn;have ci: ∀ x y c,(WA (P2.objs.size+1) scope.names cl).lookup x=some c->(WA (P2.objs.size+1) scope.names cl).lookup y=some c->s2.heap.objs.size<=c->x=y:=xH scope.names (P2.objs.size+1) cl (λx y c e1 _ hl=>absurd (Ut (I2.cell x c (hc1 x c e1)).choose_spec.lt hl) (Vb _)) (λx c e=>Ut (I2.cell x c (hc1 x c e)).choose_spec.lt (WE hCle));have cs: ∀ x,scope.names.lookup x=some .free\/scope.names.lookup x=some .cell-> ∃ c,(WA (P2.objs.size+1) scope.names cl).lookup x=some c:=λx h=>Xq.mp (XN _ _ _ (h.elim (λz=> .inr (Xq.mpr (hc2 x z))) .inl));have hns₁ :(Zr (P2.push { cls:= .type "dict",data:= .dict #[] }) scope.names).Ns P2.objs.size (λ_=>none):=(Heap.Ns.new P2 (.type "dict")).keeps (ZX _ _);have kp: ∀ b o,P2.get? b=some o->(Zr (P2.push { cls:= .type "dict",data:= .dict #[] }) scope.names).get? b=some o:=λb o e=>ZX _ _ b o (Uk _ e);generalize hh₁ :Zr (P2.push { cls:= .type "dict",data:= .dict #[] }) scope.names=h₁ at *;generalize hcl':WA (P2.objs.size+1) scope.names cl=cl' at *;have c1: ∀ x c,cl'.lookup x=some c->(scope.names.lookup x≠some .cell/\X.env.cells.lookup x=some c)\/(scope.names.lookup x=some .cell/\P2.objs.size+1<=c/\h₁.IsCell c none):=λx c e=>by
  rcases cn x c e with⟨n,q⟩ | ⟨m,q⟩
  . exact .inl ⟨λz=>n (lookup_mem z),hc1 x c q⟩
  . exact .inr ⟨(iy (X:=X) hlc _ m).1 rfl,q⟩
 have old: ∀ b o,s2.heap.get? b=some o->h₁.get? b=some o:=λb o e=>kp b o (hH2 ▸ Uk _ e);have hacc:h₁.get? s2.heap.objs.size=some { cls:= .type "list",data:= .seq ([]:List Value).toArray 0 }:=kp _ _ (hH2 ▸ UB _ rfl);have c1': ∀ x c,cl'.lookup x=some c->(scope.names.lookup x≠some .cell/\X.env.cells.lookup x=some c)\/(scope.names.lookup x=some .cell/\s2.heap.objs.size<=c/\h₁.IsCell c none):=λx c e=>(c1 x c e).imp id λz=>⟨z.1,UO (WE hCle) z.2.1,z.2.2⟩
 generalize hDe:s2.heap.objs.size=D at *;generalize hCe:P2.objs.size=C at *;have fo: ∀ b∈fp,∃ o,s2.heap.get? b=some o:=λb hb=>let ⟨o,e,_⟩:=T.obj _ _ st2 b hb;⟨o,e⟩
 have fpD: ∀ b∈fp,b < D:=λb hb=>by obtain⟨o,e⟩:=fo b hb;rw[<- hDe];exact Ux e
 have pnlt: ∀ p∈X.pn++pins,p.1 < D:=λp hp=>by rw[<- hDe];exact Ux (I2.pin p hp).1
 have cllt: ∀ x c,X.env.cells.lookup x=some c->c < D:=λx c e=>by obtain⟨v,q⟩:=I2.cell x c e;rw[<- hDe];exact q.lt
 have hLD:X.env.locals < D:=by rw[<- hDe];exact I2.lt
 have hD0:X.s₀.heap.objs.size<=D:=by rw[<- hDe];exact I2.sz
 have IY0:Inv (fk X vars scope cl' C s2 H2 fp (X.pn++pins)) [] (σ ++Up vars.length none) H2 { s2 with heap:=h₁,toks:=s2.toks } :=
  I2.fk hkind hlc (by rw[hDe];exact c1') cs (by rw[hDe];exact ci) f2 fo (by rw[hDe];exact hCle) hns₁ old
 have st1:tn 0 h₁ :=T.keep _ _ _ st2 λb _ o e=>old b o e;obtain⟨hg,hf,he⟩:=hb cl' C s2 H2 fp (X.pn++pins);generalize hY:fk X vars scope cl' C s2 H2 fp (X.pn++pins)=Y at *;have Yprog:Y.prog=X.prog:=by rw[<- hY];rfl
 have Yw:Y.w=X.w:=by rw[<- hY];rfl
 have YK:Y.K=X.K:=by rw[<- hY];rfl
 have YA:Y.A=X.A:=by rw[<- hY];rfl
 have Ycalm:Y.calm=true:=by rw[<- hY];exact hc
 have Yenv:Y.env=We scope cl' C X.env:=by rw[<- hY];rfl
 have Yloc:Y.env.locals=C:=by rw[Yenv];rfl
 have Yex:Y.ex=fp:=by rw[<- hY];rfl
 have Yfs:Y.fs=Bv X.stack:=by rw[<- hY];rfl
 have Ys0:Y.s₀ =s2:=by rw[<- hY];rfl
 have YH0:Y.H₀ =H2:=by rw[<- hY];rfl
 have Ypn:Y.pn=X.pn++pins:=by rw[<- hY];rfl
 have YN:Y.N=pF X.N vars:=by rw[<- hY];rfl
 have Yxe: ∀ v s,¬ Y.xe v s:=by rw[<- hY];exact hx
 have noE: ∀{E':Value->Uj->Prop}{v:Value}{s:Uj},Y.xe v s->E' v s:=λh=>absurd h (Yxe _ _);have Ycell: ∀ x c,Y.env.cells.lookup x=some c->c≠D:=λx c e=>by
  rw[Yenv] at e;exact(c1 x c e).elim (λz=>UK (cllt x c z.2)) (λz=>Xg (Ut (aa3 hCle) z.2.1))
 have fpY: ∀{H':Hp}{pl:List (Addr × Obj)},(∀ b∈fp,H' b=none)->(∀ p∈pl,D<=p.1)-> ∀ b∈fp,nW Y pl H' b:=λ{H' pl} hn hp b hb=>by
  refine⟨hn b hb,?_,?_,.inl (by rw[Yex];exact hb),?_,?_⟩
  . rw[Yloc];exact UK (Ut (fpD b hb) hCle)
  . rw[Yfs];intro z;rcases Uy.mp (I2.mF b z) with q | q
    . exact(f2 b hb).2.1 q
    . exact(f2 b hb).2.2.1 q
  . intro x c e z;rw[Yenv] at e;exact(c1 x c e).elim (λw=>(f2 b hb).2.2.2.2.1 x c w.2 z) (λw=>absurd (Ut (fpD b hb) (UO (WE hCle) (z ▸ w.2.1))) (Vb _))
  . intro p hp';rcases Vl.mp hp' with q | q
    . rw[Ypn] at q;exact(f2 b hb).2.2.2.2.2 p q
    . intro z;have:=hp p q;rw[z] at this;exact absurd (Ut (fpD b hb) this) (Vb _)
 have Dfs:D ∉ Y.fs:=by
  rw[Yfs];intro z;rcases Uy.mp (I2.mF D z) with q | q
  . exact absurd hLD (by rw[q];exact Vb _)
  . exact I2.Oi (by rw[hDe];exact Uo _) q
 have loop:ZE (model X.prog X.w) X.A (.compLoop (.ListComp elt [⟨tg,iter,ifs,0⟩] scope pos) 0 (.ref it) (.ref D) (We scope cl' C X.env)) (RR (.ref D) C) { s2 with heap:=h₁,toks:=s2.toks }:=by
  refine pU (λn s'=> ∃ i ys H' aj k,Inv Y [(D,{ cls:= .type "list",data:= .seq aj k })] (σ ++Up vars.length none) H' s'/\tn i s'.heap/\(∀ b∈fp,H' b=none)/\W i n ys H'/\Vals ys aj.toList/\ys.length<=sizeLine) ?_ m0
   ⟨0,[],H2,_,0,IY0.jH (λp hp=>?_),st1,λb hb=>(f2 b hb).1,w0,.nil,Vd _⟩
  . rintro n s3 ⟨i,ys,H3,aj,k,I3,mh,fr3,w3,hv,hlen⟩;rcases turn i n ys H3 w3 with⟨stop,q⟩ | ⟨go,hlt,step⟩
    . have d:=T.done Y Yprog Yw YK Ycalm i _ s3 _ H3 (notedBy (model X.prog X.w) X.A (We scope cl' C X.env) λe s'=>RR (.ref D) C (.error e) s') I3 (fpY fr3 (by intro p hp;rw[Vc.mp hp];exact Uo _)) mh stop;rw[YA] at d;refine U8 d (λr s4 hr=>?_) λ_ _ z=>z;obtain⟨rfl,I4⟩:=hr;obtain⟨eD,nD,_,_,_⟩:=I4.pin (D,_) (UP _ Uv);dsimp only at eD nD;obtain⟨m,hnC,_⟩:=I4.loc;rw[Yloc] at hnC;have hb4:=I4.base;rw[Yfs,Yex,YH0,Ys0] at hb4;have hok4:=I4.bD;rw[Yprog,Yw] at hok4;have hCf:=I4.free;rw[Yloc] at hCf;have neD: ∀ b o,s2.heap.get? b=some o->b≠D:=λb o e=>by rw[<- hDe];exact UK (Ux e)
      have IX:Inv X pins σ (upd H3 D (.lst ys)) s4:=by
       refine I2.Qp (ch:=fp) (I4.os.trans (by rw[Ys0])) ⟨hb4.keep,hb4.slot,λb o e n hx'=>?_,hb4.there,λb xs e=>?_,λb o u e=>?_,λb ps e=>?_⟩ (λb u e=>?_) I4.bare (λb hb'=>?_)
       . rw[aB (neD b o e)];exact hb4.free b o e n hx'
       . rw[aB (aC (hb4.m6 b xs e) nD)];exact hb4.m6 b xs e
       . rw[aB (aC (hb4.l6 b o u e) nD)];exact hb4.l6 b o u e
       . obtain⟨more,e'⟩:=hb4.nX b ps e;exact⟨more,by rw[aB (aC e' nD)];exact e'⟩
       . by_cases hbD:b=D
         . subst hbD;rw[bz] at e;cases e;exact⟨hlen,aj.toList,k,hv,by simpa using eD⟩
         . rw[aB hbD] at e;exact(hok4 b u e).uk (λc v _ z=>z) (λc z=>by rw[aB (aC z nD)];exact z) λc xs z=>by rw[aB (aC z nD)];exact z
       . have f:=f2 b hb';exact⟨f.2.2.2.1,f.2.1,f.2.2.2.2.1,f.2.2.2.2.2⟩
      refine hRR D C s4 H3 ys m IX hnC nD (by rw[aB (V3 hDC)];exact hCf) (Xg (Ut hLD hCle)) (UO hD0 hCle) (λx c e=>UK (Ut (cllt x c e) hCle)) (λp hp=>UK (Ut (pnlt p hp) hCle)) (q D nD)
    . have d:=T.item Y Yprog Yw YK Ycalm i _ s3 _ H3 (notedBy (model X.prog X.w) X.A (We scope cl' C X.env) λe s'=>RR (.ref D) C (.error e) s') I3 (fpY fr3 (by intro p hp;rw[Vc.mp hp];exact Uo _)) mh go;rw[YA] at d;refine U8 d (λr s4 hr=>?_) λ_ _ z=>z;obtain⟨u,rfl,h4⟩:=hr;refine U8 h4 (λ_ s5 h5=>?_) λ_ _ z=>z;obtain⟨x,H5,I5,r5,y5,st5,fr5⟩:=h5;have I5':=I5.pinned (fpY fr5 (by intro p hp;rw[Vc.mp hp];exact Uo _)) (T.obj _ _ st5);have a1:=hg _ s5 _ H5 x u _ I5' r5 (hgk _ _ _ _ (step x H5 y5));rw[Yprog,Yw,YA,Yenv] at a1;refine U8 a1 (λ_ s6 h6=>?_) λ_ _ z=>noE z;obtain⟨σ6,H6,I6,q6,k6⟩:=h6;have a2:=hf _ s6 σ6 H6 _ I6 q6;rw[Yprog,Yw,YA,Yenv] at a2;have back: ∀{pl:List (Addr × Obj)}{H':Hp}{s':Uj},Inv Y pl σ6 H' s'->Inv Y pl (σ ++Up vars.length none) H' s':=λ{pl H' s'} I'=>by
       refine I'.weak ?_ λj v e=>?_
       . rw[I'.len,<- I3.len]
       . by_cases hj:j < σ.length
         . rw[k6 j (by rw[<- I2.len];exact hj)];exact e
         . rw[UM (aaT.mp hj),WO] at e;split at e<;>cases e
      refine U8 a2 (λok s7 h7=>?_) λ_ _ z=>noE z;obtain⟨H7,I7,q7⟩:=h7;cases ok with
      | false =>
       rw[if_neg UG] at q7
       unfold xK
       rw[if_neg (show ¬ false=true from UG)]
       obtain⟨m',hm',w7⟩:=q7
       refine⟨m',hm',i+1,ys,H7,aj,k,(back I7).jH (λp hp=>I7.pin p (UP _ (Xc _ hp))),T.keep _ _ _ st5 λb hb' o e=>(I7.pin (b,o) (UP _ (UP _ (eG hb' e)))).1,λb hb'=>?_,w7,hv,hlen⟩
       obtain⟨o,e,_⟩:=T.obj _ _ st5 b hb'
       exact(I7.pin (b,o) (UP _ (UP _ (eG hb' e)))).2.1
      | true =>
       rw[if_pos rfl] at q7
       unfold xK
       rw[if_pos (show true=true from rfl)]
       have a3:=he _ s7 σ6 H7 _ I7 q7
       rw[Yprog,Yw,YA,Yenv] at a3
       refine U8 a3 (λy s8 h8=>?_) λ_ _ z=>noE z
       obtain⟨v,H8,I8,r8,m',hm',w8⟩:=h8
       obtain⟨eD,nD,neL,nfD,dD⟩:=I8.pin (D,_) (UP _ (Xc _ Uv))
       dsimp only at eD nD neL nfD dD
       refine append_at (hsz:=by have:=hv.length;simp at this;omega) eD λh9 hs9 e9=>?_
       have st8:tn (i+1) s8.heap:=T.keep _ _ _ st5 λb hb' o e=>(I8.pin (b,o) (UP _ (UP _ (eG hb' e)))).1
       have fr8: ∀ b∈fp,H8 b=none:=λb hb'=>by
        obtain⟨o,e,_⟩:=T.obj _ _ st5 b hb';exact(I8.pin (b,o) (UP _ (UP _ (eG hb' e)))).2.1
       have I8':Inv Y [] (σ ++Up vars.length none) H8 s8:=(back I8).jH λp hp=>nomatch hp
       have I9:=I8'.turned (it:=D) (h':=h9) (t':=s8.toks) (λb o hb' e=>hs9.extBut b o hb' e) nD neL (.inr (by rw[Ys0,hDe];exact Uo _)) (λx c e=>Ycell x c e) (λp hp=>by
        rw[U3,Ypn] at hp;exact UK (pnlt p hp))
       refine⟨m',hm',i+1,ys++[v],H8,aj.push y,k+1,I9.jH (λp hp=>?_),T.keep _ _ _ st8 λb hb' o e=>hs9.extBut b o (UK (fpD b hb')) e,fr8,w8,?_,?_⟩
       . obtain rfl:=Vc.mp hp;exact⟨e9,nD,neL,nfD,λv=>by simp⟩
       . rw[Array.toList_push];exact Vals.append hv (.cons r8 .nil)
       . rw[Uu,Z3];exact hlt
  . obtain rfl:=Vc.mp hp;refine⟨hacc,I2.bD.fresh (by rw[hDe];exact Uo _),?_,Dfs,λv=>by simp⟩;rw[Yloc];exact hDC
 exact codeAny_compStart_list loop (T.self _ 0 _ _ _ st1 loop)
end
section
variable{X:Cx}{scope:Scope}{vars:List Str}{elt tg iter:Expr}{ifs:List Expr}{pos spos py:Pos}{wi:TI}{g:TG}{tt:TT}{te:TE}{i:Nat}{y:Str}
theorem CO(vars:List Str)(hc:X.calm=true)(hx: ∀ v s,¬ X.xe v s)(hkind:scope.kind= .function)(hlc:iO scope.names X.env.scope.names X.N vars=true)(hi:PI X tg iter wi)
  (hb: ∀ cl C s₀ H₀ ex pn,PG (fk X vars scope cl C s₀ H₀ ex pn) tg g/\PF (fk X vars scope cl C s₀ H₀ ex pn) ifs tt/\PE (fk X vars scope cl C s₀ H₀ ex pn) elt te) (hgk:GK X.N.length g)
  (hs: ∀ x,U9 iter X.env x=pure x:=by intro _;rfl):PE X (.ListComp elt [⟨tg,iter,ifs,0⟩] scope pos) (RE vars.length wi g tt te):=by
 intro pins s σ H Q I h;obtain⟨cl,hcl,hc1,hc2⟩:=oY (env:=X.env) (scope:=scope) λp hp hf=>I.ok.has p.1 ((iy (X:=X) hlc p hp).2.1 hf);rw[eval_ListComp];refine Zd (use:=none) rfl hs hcl hkind (λp hp=>(iy (X:=X) hlc p hp).2.2) ?_;refine U8 (hi pins s σ H _ I h) (λv s1 h1=>U8 h1 (λitv s2 h2=>?_) λ_ _ z=>z) λ_ _ z=>z;obtain⟨it,fp,tn,J,H2,rfl,I2,T,st2,f2,W,⟨m0,w0⟩,turn⟩:=h2;refine pA (Q:=Q) (RR:=λacc C=>compPost (model X.prog X.w) X.A X.xe none (EP X pins σ Q) acc C) hc hx hkind hlc hb hgk hc1 hc2 I2 T st2 f2 w0 turn ?_;intro D C s4 H4 ys m I4 hn nD nC neL hsz hcell hpin q;refine⟨m,hn,λh' hs'=>⟨.ref D,_,I4.turned (it:=C) (t':=s4.toks) (λb o hb e=>hs'.extBut b o hb e) nC neL (.inr hsz) hcell hpin,rfl,q⟩⟩
noncomputable def BQ(k i:Nat)(wi:TI)(g:TG)(tt:TT)(te:TE):TS:=λD σ H=>RE k wi g tt te σ H λv H1=>D.nx (σ.set i (some v)) H1
theorem Ew(vars:List Str)(i:Nat)(hc:X.calm=true)(hx: ∀ v s,¬ X.xe v s)(hkind:scope.kind= .function)(hlc:iO scope.names X.env.scope.names X.N vars=true)(hN:X.N.Nodup)(hiy:X.N[i]?=some y)(hy:Loc X.env.scope y)
  (hi:PI X tg iter wi)
  (hb: ∀ cl C s₀ H₀ ex pn,PG (fk X vars scope cl C s₀ H₀ ex pn) tg g/\PF (fk X vars scope cl C s₀ H₀ ex pn) ifs tt/\PE (fk X vars scope cl C s₀ H₀ ex pn) elt te) (hgk:GK X.N.length g)
  (hsw:W4 (.ListComp elt [⟨tg,iter,ifs,0⟩] scope pos) (some (.Name y py)) spos.line X.env=pure true:=by rfl)
  (hs: ∀ x,U9 iter X.env x=pure x:=by intro _;rfl)
  (hf:X.fn y=true\/X.env.scope.names.lookup y=some .local:=by first | exact .inl rfl | exact .inr rfl | assumption) :
  PS X (.Assign [.Name y py] (.ListComp elt [⟨tg,iter,ifs,0⟩] scope pos) spos) (BQ vars.length i wi g tt te):=by
 intro pins s σ H Dn I h;obtain⟨cl,hcl,hc1,hc2⟩:=oY (env:=X.env) (scope:=scope) λp hp hf=>I.ok.has p.1 ((iy (X:=X) hlc p hp).2.1 hf);rw[exec_Assign_Name_used _ _ _ _ hsw];refine Ue (aaE (Ue ?_));show wpAny _ X.A (do let _ <- comprehension (.ListComp elt [⟨tg,iter,ifs,0⟩] scope pos) scope X.env _ (newList []) false (eval iter X.env) (some (XJ (.Name y py) X.env))) _ _ s;refine Ue (U8 (Zd (use:=some (XJ (.Name y py) X.env)) (Q:=λ_ s'=>SP X pins Dn .next s') rfl hs hcl hkind (λp hp=>(iy (X:=X) hlc p hp).2.2) ?_) (λ_ s' hq=>Us (Us hq)) λ_ _ e=>e);refine U8 (hi pins s σ H _ I h) (λv s1 h1=>U8 h1 (λitv s2 h2=>?_) λ_ _ z=>z) λ_ _ z=>z;obtain⟨it,fp,tn,J,H2,rfl,I2,T,st2,f2,W,⟨m0,w0⟩,turn⟩:=h2;refine pA (Q:=λv H1=>Dn.nx (σ.set i (some v)) H1) (RR:=λacc C=>compPost (model X.prog X.w) X.A X.xe (some (XJ (.Name y py) X.env)) (λ_ s'=>SP X pins Dn .next s') acc C) hc hx hkind hlc hb hgk hc1 hc2 I2 T st2 f2 w0 turn ?_;intro D C s4 H4 ys m I4 hn nD nC neL hsz hcell hpin q;show wpAny _ X.A (XJ (.Name y py) X.env (.ref D)) _ _ s4;refine wpAny_assign_Name (rN I4 hN hiy hy (v:= .ref D) rfl (λs5 I5 ⟨a,hsb,ha⟩=>?_) hf);have hCa:C≠a:=by
  rcases ha with z | z
  . rw[z];exact neL
  . exact V3 (hcell _ _ z)
 refine⟨m,hn.sameBut hsb hCa,λh' hs'=>?_⟩;exact⟨_,_,I5.turned (it:=C) (t':=s5.toks) (λb o hb e=>hs'.extBut b o hb e) nC neL (.inr hsz) hcell hpin,q⟩
end
theorem Jz{K:Ud}{a:Addr}{xs:List V}{k:Nat}{g:TG}{tt:TT}{te:TE}{σ :St}{H:Hp}{Q:VK}(Pv:Nat->List V->Hp->Prop)(h0:Pv 0 [] H)(hl: ∀ i ys H,i<=xs.length->Pv i ys H->fM K H a xs/\ys.length<=i)(hz:xs.length<=sizeLine)
  (hs: ∀ i x ys H,xs[i]?=some x->Pv i ys H->g x (σ ++Up k none) H fun σ2 H2=>tt σ2 H2 λb H3=>if b=true then te σ2 H3 λy H4=>Pv (i+1) (ys++[y]) H4 else Pv (i+1) ys H3)
  (hd: ∀ ys H,Pv xs.length ys H-> ∀ p,H p=none->Q (.ref p) (upd H p (.lst ys)))
  (gm:sV g) (tm: ∀ σ H Q Q',(∀ b H1,Q b H1->Q' b H1)->tt σ H Q->tt σ H Q') (em: ∀ σ H Q Q',(∀ b H1,Q b H1->Q' b H1)->te σ H Q->te σ H Q') :
  ∃ W:Nat->Nat->List V->Hp->Prop,(∃ m,W 0 m [] H)/\ ∀ i m ys H,W i m ys H ->
 ((CU K a).stop i H/\ ∀ p,H p=none->Q (.ref p) (upd H p (.lst ys))) \/
 ((CU K a).go i H/\ys.length < sizeLine/\ ∀ x H',(CU K a).Ja i H x H'->g x (σ ++Up k none) H' fun σ2 H2=>tt σ2 H2 λb H3 =>
  if b=true then te σ2 H3 λy H4=> ∃ m',m' < m/\W (i+1) m' (ys++[y]) H4 else ∃ m',m' < m/\W (i+1) m' ys H3):=by
 refine⟨λi m ys H=>m=xs.length - i/\i<=xs.length/\Pv i ys H,⟨xs.length,by simp,Vd _,h0⟩,?_⟩
 rintro i m ys H ⟨rfl,hi,p⟩
 obtain⟨q,hy⟩:=hl i ys H hi p
 by_cases hlt:i < xs.length
 . refine .inr ⟨⟨xs,xs[i],q,by simp[hlt]⟩,by omega,λx H' y=>?_⟩;obtain⟨e,y⟩:=y;subst e;refine gm _ _ _ _ _ (fun σ2 H2 z=>tm _ _ _ _ (λb H3 z=>?_) z) (hs i x ys _ (y xs q) p);cases b with
   | true =>
    rw[if_pos rfl] at z ⊢
    exact em _ _ _ _ (λv H4 w=>⟨xs.length - (i+1),by omega,rfl,hlt,w⟩) z
   | false =>
    rw[if_neg UG] at z ⊢
    exact⟨xs.length - (i+1),by omega,rfl,hlt,z⟩
 . have e:i=xs.length:=by omega
   subst e;exact .inl ⟨⟨xs,q,Uo _⟩,hd ys H p⟩
theorem uO{X:Cx}:aV X (.builtin "isinstance") (λxs H Q=> ∃ x T t b,xs=[x,.ty T]/\jW X.K H x t/\YE X.K t (.type T)=some b/\Q (.bl b) H):=by
 intro pins s σ H xs us Q I r h;obtain⟨x,T,t,b,rfl,ty,k,q⟩:=h;obtain⟨u,c,rfl,ru,rc⟩:=vals2 r;cases(show c=Xz T from rc);exact zO I ru ty k λtk=>⟨.bl b,H,I.tok tk,rfl,q⟩
theorem ba.get{P:UN}{w:World}{H:Hp}{h:Heap}{a:Addr}{o:HO}(x:ba P w H h a o): ∃ ob,h.get? a=some ob:=by
 induction o with
 | lst xs=>obtain⟨_,aj,n,_,e⟩:=x;exact⟨_,e⟩
 | tup xs=>obtain⟨_,aj,_,ob,e,_⟩:=x;exact⟨_,e⟩
 | dK kvs=>obtain⟨_,_,vs,_,ob,es,ep,e,_⟩:=x;exact⟨_,e⟩
 | dT kvs=>obtain⟨_,_,xs,_,ob,es,ep,e,_⟩:=x;exact⟨_,e⟩
 | set S n=>obtain⟨ob,es,ep,t,e,_⟩:=x;exact⟨_,e⟩
 | ins C dx fs=>obtain⟨_,_,_,e,_⟩:=x;exact⟨_,e⟩
 | own y=>exact x
 | xd fs=>obtain⟨mA,⟨od,es,ep,e,_⟩,_⟩:=x;exact⟨_,e⟩
 | rR lo hi=>obtain⟨t,u,v,e⟩:=x;exact⟨_,e⟩
 | kI ob u ih=>obtain⟨e,_⟩:=x;exact⟨_,e⟩
 | tbl ps=>exact⟨_,x⟩
 | met f y=>exact⟨_,x⟩
 | ext φ =>obtain⟨_,e,_⟩:=x;exact e
theorem Inv.mJ{X:Cx}{pins:List (Addr × Obj)}{σ :St}{H:Hp}{s:Uj}{h':Heap}{a:Addr}{o:HO}{t':Nat}(I:Inv X pins σ H s)(k: ∀ b u,s.heap.get? b=some u->h'.get? b=some u)(hp:s.heap.get? a=none)(new:ba X.prog X.w (upd H a o) h' a o) :
  H a=none/\Inv X pins σ (upd H a o) { s with heap:=h',toks:=t' }:=by
 have hn:H a=none:=by
  cases q:H a with
  | none=>rfl
  | some u =>
   obtain⟨ob,e⟩:=(I.bD a u q).get
   rw[hp] at e;cases e
 have ne: ∀ b u,s.heap.get? b=some u->b≠a:=λb u e z=>by rw[z,hp] at e;cases e
 refine⟨hn,I.un ⟨λb u q _ _ _=>k b u q,λb u q _ _ _=>⟨u.slots,k b u q⟩,λb u q n _=>?_,λb u q _=>⟨u,k b u q⟩,λb xs q=>?_,λb u xs q=>?_,λb ps q=>?_⟩ λb u e=>?_⟩
 . rw[aB (ne b u q)];exact n
 . rw[aB (aC q hn)];exact q
 . rw[aB (aC q hn)];exact q
 . exact⟨#[],by rw[aB (aC q hn),q];simp⟩
 . by_cases hb:b=a
   . subst hb;rw[bz] at e;cases e;exact new
   . rw[aB hb] at e;exact(I.bD b u e).uk (λc v _ q=>k c v q) (λc q=>by rw[aB (aC q hn)];exact q) λc xs q=>by rw[aB (aC q hn)];exact q
theorem mY{h h':Heap}(k: ∀ b o,h.get? b=some o->h'.get? b=some o):h.get? h'.objs.size=none:=by
 cases q:h.get? h'.objs.size with
 | none=>rfl
 | some o=>exact absurd (Ux (k _ _ q)) (Vb _)
section
variable{prog:UN}{w:World}{A:U6}{E:Value->Uj->Prop}{s:Uj}
theorem lI{a:Addr}{vs:List Value}{ss:List Str}{n:Nat}{Q:Value->Uj->Prop}(ho:s.heap.get? a=some (WU "list" vs.toArray n))(hS:Yt vs ss)(h64:vs.length < 64)
  (h: ∀(out:Array Value)(ss':List Str),Yt out.toList ss'->ss'.Perm ss->Y4 ss'=true->Q .none { s with heap:=ZM s.heap a vs out }) :
  wpAny (model prog w) A (call (.builtin "list.sort") [.ref a]) Q E s:=by
 refine V2 Z9 ⟨_,ho,rfl⟩ ZY (list_sort_treeK strKind_oneLt ho hS.keysOf (λv₁ v₂ rest e=>keyKind_strs (by rw[<- e];exact hS)) h64 λst' hp hs=>⟨_,rfl,?_⟩) (aaa _);have z:=sorted_out_str hS hp hs;exact h _ z.choose z.choose_spec.1 z.choose_spec.2.1 z.choose_spec.2.2
theorem yg{T:String}{r d:Addr}{n:Nat}{P:Nat->Value->Prop}{OK:Heap->Prop}{Q:Value->Uj->Prop}(K:PySem.W.KdlSrc prog w T r d n P OK)(hh:A.handled=none)(bD:OK s.heap)(hn:n<=sizeLine)
  (h: ∀(D:Addr)(h':Heap)(tk:Nat)(vs:List Value),(∀ b o,s.heap.get? b=some o->h'.get? b=some o)->h'.get? D=some (WU "list" vs.toArray 0)->s.heap.get? D=none->vs.length=n->(∀(j:Nat)(v:Value),vs[j]?=some v->P j v) ->
   wpAny (model prog w) A.in1 (call (.builtin "list.sort") [.ref D]) (λ_ z=>Q (.ref D) z) E { s with heap:=h',toks:=tk }):wpAny (model prog w) A (call (.builtin "sorted") [.ref r]) Q E s:=by
 refine Xk aby aa4 aa5 (aa6 (.ref r)) ?_;unfold Xa.«sorted»;refine Ue (m:=checkCount "sorted" 1 1 [UJ r].length) (Us (Ue (PySem.W.kdu_collect (A:=A.in1) K hh bD hn λh' tk acc hk hacc=>?_)));have many:acc.toList.length=n:=VX.trans hacc.1;refine Ue (X9 (Ue (VP (U8 (h h'.objs.size (h'.push { cls:= .type "list",data:= .seq acc.toList.toArray }) tk acc.toList (λb o e=>Uk _ (hk b o e)) (UB _ rfl) (mY hk) many
  λj v e=>hacc.2 j v (W5 ▸ e)) (λ_ z q=>Us (abV _ (abk rfl q))) λ_ _ e=>e))) (many ▸ hn))
end
theorem fQ{ss:List Str}: ∀{us:List Value},Vals (ss.map V.str) us->Yt us ss:=by
 induction ss with
 | nil=>intro us h;cases h;exact .nil
 | cons x r ih =>
  intro us h
  cases h with
  | cons hx ht =>
   obtain⟨t,rfl⟩:=hx
   exact .cons x t (ih ht)
theorem jI: ∀{us:List Value}{ss:List Str},Yt us ss->Vals (ss.map V.str) us
 | _,_,.nil=> .nil
 | _,_,.cons x t h=> .cons ⟨t,rfl⟩ (jI h)
theorem y9{P:Nat->Value->Prop}: ∀{ss:List Str}{vs:List Value},vs.length=ss.length->(∀(j:Nat)(v:Value)(x:Str),vs[j]?=some v->ss[j]?=some x-> ∃ t,v=X0 x t)->Yt vs ss
 | [],[],_,_=> .nil
 | x::r,v::vs,hl,h=>by
  obtain⟨t,rfl⟩:=h 0 v x rfl rfl;exact .cons x t (y9 (P:=P) (by simpa using hl) λj v y e1 e2=>h (j+1) v y (by simpa using e1) (by simpa using e2))
section
variable{X:Cx}
theorem m8:aV X (.builtin "sorted") (λxs H Q=> ∃ p ss,xs=[.ref p]/\iS X.K H p (ss.map V.str)/\ss.length < 64/\ ∀ l ss',H l=none->ss'.Perm ss->Y4 ss'=true->Q (.ref l) (upd H l (.lst (ss'.map V.str)))):=by
 intro pins s σ H xs us Q I r h;obtain⟨p,ss,rfl,hS,h64,q⟩:=h;obtain⟨u,rfl,ru⟩:=vals1 r;cases(show u=UJ p from ru);obtain⟨aj,hv,hl,hz⟩:=I.list hS;have sa:=fQ hv;refine sorted_strs hl.isList sa (by rw[sa.length];exact h64) λout ss' a1 a2 a3=>?_;obtain⟨e,he⟩:=aa7 s.heap aj out;have hlen:(ss'.map V.str).length<=sizeLine:=by rw[Ui,a2.length_eq];exact WC (Ut h64 (by decide))
 obtain⟨hn,I'⟩:=I.mJ (a:=s.heap.objs.size+1) (o:= .lst (ss'.map V.str)) (t':=s.toks) (λb o e=>aaG e) (V6 (Y0 _)) ⟨hlen,out.toList,e,jI a1,by simpa [WU] using he⟩;exact⟨.ref _,_,I',rfl,q _ ss' hn a2 a3⟩
theorem ni(hc:X.calm=true):aV X (.builtin "sorted") (λxs H Q=> ∃ d kvs ss,xs=[.ref d]/\H d=some (.dK kvs)/\kvs.map (·.1)=ss.map VZ/\ss.length < 64/\ ∀ l ss',H l=none->ss'.Perm ss->Y4 ss'=true->Q (.ref l) (upd H l (.lst (ss'.map V.str)))):=by
 intro pins s σ H xs us Q I r h;obtain⟨d,kvs,ss,rfl,hd,hk,h64,q⟩:=h;obtain⟨u,rfl,ru⟩:=vals1 r;cases(show u=UJ d from ru);obtain⟨z,lo,vs,rel,dd⟩:=vY I.bD hd;obtain⟨ep,da⟩:=dd.dictAt;have hlen:vs.length=ss.length:=by
  have e1:=rel.length;have e2:(kvs.map (·.1)).length=(ss.map (VZ (α :=Int))).length:=by rw[hk]
  rw[Ui,Ui] at e2;omega
 refine yg (PySem.W.kdl_dict (knd:=aH X.prog X.w) (kvs:=vs) (ep:=ep) lo) (I.ok.hd hc) da (by rw[hlen];exact WC (Ut h64 (by decide))) λD h' tk ws keep hD hDn hl hP=>?_;have sa:Yt ws ss:=by
  refine y9 (P:=λ_ _=>True) (by rw[hl,hlen]) λj v x e1 e2=>?_;obtain⟨k,y,e3,hk'⟩:=hP j v e1;have e4:(kvs.map (·.1))[j]?=some k:=by
   have e5:=rel.keys;rw[e5,UA,e3];rfl
  rw[hk,UA,e2] at e4;have e6:(VZ x:Key)=k:=Vg e4;subst e6;rcases bO (show pI (VZ x) v=true from hk') with⟨i,t,z,_⟩ | ⟨x',t,z,e⟩
  . cases z
  . cases z;exact⟨t,e⟩
 refine lI (n:=0) hD sa (by rw[hl,hlen];exact h64) λout ss' a1 a2 a3=>?_;obtain⟨e,he⟩:=sortedHeap_at (out:=out) hD;have hle:(ss'.map V.str).length<=sizeLine:=by rw[Ui,a2.length_eq];exact WC (Ut h64 (by decide))
 have keep': ∀ b o,s.heap.get? b=some o->(ZM h' D ws out).get? b=some o:=λb o e=>by
  rw[sortedHeap_old (λz=>by rw[z,hDn] at e;cases e) (Ux (keep b o e))];exact keep b o e
 obtain⟨hn,I'⟩:=I.mJ (a:=D) (o:= .lst (ss'.map V.str)) (t':=tk) keep' hDn ⟨hle,out.toList,e,jI a1,by simpa [WU] using he⟩;exact⟨.ref _,_,I',rfl,q _ ss' hn a2 a3⟩
end
section
variable{prog:UN}{w:World}{A:U6}{E:Value->Uj->Prop}{s:Uj}
theorem qJ:typeLookup (.type "tuple") "keys" =pure none:=am_miss_of_fast (by decide +kernel)
set_option maxHeartbeats 4500000 in
set_option maxRecDepth 9000 in
theorem qG{a:Addr}{o:Obj}{xs:Array Value}{k:Nat}{Q:Option Value->Uj->Prop}
  (hx:s.heap.get? a=some o) (hc:o.cls= .type "tuple") (hdat:o.data= .seq xs k) (hd:o.dict=none) (hA:A.handled=none)
  (h: ∀ h' tk,(∀ b o,s.heap.get? b=some o->h'.get? b=some o)->Q none { s with heap:=h',toks:=tk }):wpAny (model prog w) A (getAttr? (.ref a) "keys") Q E s:=by
 obtain⟨c,dct,dat,sl⟩:=o;simp only at hc hdat hd;subst hc hdat hd;obtain⟨h0,gs,dr,t0,o0⟩:=s;have hT: ∀ k,(Shared.mk h0 gs dr k o0).TypeIs (.ref a) "tuple" :=λ_=>abV _ (abk hx rfl);have f1:=sub_AttributeError;have f3:=F.slot_tuple_getattribute.lookup;have f4:=F.slot_tuple_getattribute.bind (.ref a);have f5:=am_tuple_getattr_none;unfold getAttr?;unfold getAttrBy?;unfold getAttrBy
 repeat (any_goals (first | assumption | exact hT _ | ((with_reducible show wpAny _ _ (call (Value.builtin "tuple.__getattribute__") _ _) _ _ _);refine Wb F.slot_tuple_getattribute (hT _) am_entry_tuple_getattribute (F.args_tuple_getattribute_2 _ _) (meets_getattribute_miss_tuple a xs k sl "keys" _ qJ (by decide +kernel)) ⟨hx,hA,λh' tk' e hx'=>?_⟩) | wp_step))
 obtain⟨_,_,he⟩:=hx'.there
 with_reducible_and_instances unfold getattributeRaised
 repeat (any_goals (first | exact he | assumption | wp_step))
 exact h _ _ λb o e=>hx'.keeps b o e
end
section
variable{prog:UN}{w:World}{A:U6}{E:Value->Uj->Prop}{s:Uj}
theorem gI:entryFor table "dict.update.loop" =some Xa.«dict.update.loop» :=entryFor_of_tree (by kernel_rfl)
theorem cI:plainId "dict.update.loop" =true:=by decide +kernel
theorem RO{c:Prop}[Decidable c]{m m':Sem α}{M:Model}{Q: α ->Uj->Prop}(hc:c)(h:wpAny M A m Q E s):wpAny M A (if c then m else m') Q E s:=by rw[if_pos hc];exact h
noncomputable def mX(prog:UN)(w:World)(h:Heap)(v:Value)(kv:Key × Value):Prop:= ∃ b o kx n,v= .ref b/\h.get? b=some o/\o.cls= .type "tuple" /\o.data= .seq #[kx,kv.2] n/\(aH prog w).is kv.1 kx=true
theorem mX.keeps{h h':Heap}{v:Value}{kv:Key × Value}(x:mX prog w h v kv)(k: ∀ b o,h.get? b=some o->o.cls= .type "tuple" ->h'.get? b=some o):mX prog w h' v kv :=
 let ⟨b,o,kx,n,e,g,c,d,r⟩:=x;⟨b,o,kx,n,e,k b o g c,c,d,r⟩
theorem vo{R:Result->Uj->Prop}{it tp d:Addr}{items:Array Value}{kvs:List (Key × Value)}{res:Value}(hh:A.handled=none)(hne:tp≠it)(hdi:d≠it)(hdt:d≠tp)(hl:kvs.length=items.size)(hz:items.size < sizeLine) :
  ∀(k i:Nat)(ii:Int)(s:Uj)(acc:List (Key × Value)),items.size - i=k->i<=items.size->acc.length<=i->s.heap.IsTupleIter it tp i->s.heap.IsTuple tp items->s.heap.DictOf (aH prog w) d acc->(∃ od,s.heap.get? d=some od/\od.cls= .type "dict")->(∃ oi,s.heap.get? it=some oi/\oi.cls= .type "tuple_iterator") ->
   (∀(j:Nat)(v:Value)(kv:Key × Value),items[j]?=some v->kvs[j]?=some kv->mX prog w s.heap v kv) ->
   (∀ s' ,s'.heap.DictOf (aH prog w) d (merged acc (kvs.drop i))->(∃ h' tk,s'={ s with heap:=h',toks:=tk })->(∀ b o,b≠d->b≠it->s.heap.get? b=some o->s'.heap.get? b=some o)->R (.ok (.ret res)) s') ->
   ZE (model prog w) A (.builtin "dict.update.loop" ⟨[.ref d,.ref it,.int ii 0,res],[]⟩) R s:=by
 have W:=Walks.tuple (prog:=prog) (w:=w) (A:=A.in1) hh it tp hne items;intro k
 induction k with
 | zero =>
  intro i ii s acc hk hi hac hit htp hd hdc hic hP hR
  obtain rfl:i=items.size:=Nat.le_antisymm hi (by omega)
  refine Yl gI ?_
  rw[aag cI _]
  show wpAny _ A.in1 (abf (.ref it) >>= _) _ _ s
  refine Ue (W.done s _ _ ⟨hit,htp⟩ λh' tk keep=>?_)
  refine Ue (m:=Ze d []) (Us ?_)
  refine Us (hR _ ?_ ⟨h',tk,rfl⟩ λb o _ hb e=>keep b o (by simpa using hb) e)
  rw[VB (by omega)]
  exact hd.at λo e=>keep d o (by simpa using hdi) e
 | succ k ih =>
  intro i ii s acc hk hi hac hit htp hd hdc hic hP hR
  have hlt:i < items.size:=Nat.lt_of_le_of_ne hi (by omega)
  refine Yl gI ?_
  rw[aag cI _]
  show wpAny _ A.in1 (abf (.ref it) >>= _) _ _ s
  refine Ue (W.item i s _ _ hlt ⟨hit,htp⟩ λv h' tk hv hst keep=>?_)
  have hkv:i < kvs.length:=by omega
  obtain⟨b,o,kx,n,rfl,hb,hc,hdat,his⟩:=hP i v kvs[i] hv (by simp[hkv])
  have hbi:b≠it:=λz=>by
   obtain⟨oi,e1,e2⟩:=hic;rw[z,e1] at hb;cases hb;rw[e2] at hc;exact absurd hc (by decide)
  have hb':h'.get? b=some o:=keep b o (by simpa using hbi) hb
  have hT:(({ s with heap:=h',toks:=tk }:Uj)).TypeIs (.ref b) "tuple" :=⟨o,hb',hc⟩
  have hd':h'.DictOf (aH prog w) d acc:=hd.at λo e=>keep d o (by simpa using hdi) e
  dsimp only
  refine Ue (VP (Ue (wpAny_tryCatch ?_)))
  unfold Builtin.Dict.pairItems
  refine Ue (Xh hT (RO (by decide) (Ue (V7 hb' hdat (Us ?_)))))
  show wpAny _ _ (Yq [kx,kvs[i].2] (dictSet d kx kvs[i].2)) _ _ _
  refine VP (wpAny_dictSet_pairs (hsz:=by omega) his hd' λh'' dd hs=>?_)
  obtain⟨od,hod,hodc⟩:=hdc
  have hbd:b≠d:=λz=>by rw[z,hod] at hb;cases hb;rw[hodc] at hc;exact absurd hc (by decide)
  have keep2: ∀ b o,b≠d->b≠it->s.heap.get? b=some o->h''.get? b=some o:=λb o h1 h2 e=>(hs.2 b h1).trans (keep b o (by simpa using h2) e)
  refine Us ⟨plainId_quiet cI _,?_⟩
  refine ih (i+1) (ii+1) _ (stored acc kvs[i].1 kvs[i].2) (by omega) hlt (UO (stored_length_le _ _ _) (by omega)) (hst.1.at λo e=>(hs.2 it (V3 hdi)).trans e) (htp.at λo e=>keep2 tp o (V3 hdt) hne e) dd ?_ ?_ ?_ ?_
  . obtain⟨q,es,ep,e1,e2,_⟩:=dd;exact⟨q,e1,e2.1⟩
  . obtain⟨oi,e1,e2,_⟩:=hst.1;exact⟨oi,(hs.2 it (V3 hdi)).trans e1,e2⟩
  . intro j v kv e1 e2;refine(hP j v kv e1 e2).keeps λb' o' e3 e4=>keep2 b' o' (λz=>?_) (λz=>?_) e3
    . rw[z,hod] at e3;cases e3;rw[hodc] at e4;exact absurd e4 (by decide)
    . obtain⟨oi,f1,f2⟩:=hic;rw[z,f1] at e3;cases e3;rw[f2] at e4;exact absurd e4 (by decide)
  . rintro s' dd' ⟨h3,tk3,rfl⟩ keep3;refine hR _ ?_ ⟨h3,tk3,rfl⟩ λb o h1 h2 e=>keep3 b o h1 h2 (keep2 b o h1 h2 e);have e:kvs.drop i=kvs[i]::kvs.drop (i+1):=Xl hkv;rw[e];exact dd'
theorem qI{p:Addr}{o:Obj}{items:Array Value}{n:Nat}{kvs:List (Key × Value)}{Q:Value->Uj->Prop}(hh:A.handled=none)(hb:Vx < s.heap.objs.size)(hp:s.heap.get? p=some o)(hc:o.cls= .type "tuple")(hdt:o.data= .seq items n)(hdn:o.dict=none)
  (hl:kvs.length=items.size) (hz:items.size < sizeLine) (hP: ∀(j:Nat)(v:Value)(kv:Key × Value),items[j]?=some v->kvs[j]?=some kv->mX prog w s.heap v kv)
  (h: ∀ h' tk,h'.DictOf (aH prog w) s.heap.objs.size (merged [] kvs)->(∀ b o,s.heap.get? b=some o->h'.get? b=some o)->Q (.ref s.heap.objs.size) { s with heap:=h',toks:=tk }) :
  wpAny (model prog w) A (call (.type "dict") [.ref p]) Q E s:=by
 refine callType_codes (Q₁ :=λz u=>z= .ref s.heap.objs.size/\u={ s with heap:=s.heap.push { cls:= .type "dict",data:= .dict #[] } }) F.kt_called_dict (F.kt_typeCall_dict_1 _) F.entry_dict_init (kt_code_dict_new _ ⟨rfl,rfl⟩) ?_;rintro obj s₁ ⟨rfl,rfl⟩;have up: ∀ b o,s.heap.get? b=some o->(s.heap.push { cls:= .type "dict",data:= .dict #[] }).get? b=some o:=λb o e=>Uk _ e;have hnew:(s.heap.push { cls:= .type "dict",data:= .dict #[] }).DictOf (aH prog w) s.heap.objs.size []:=ZW s.heap;have hp1:=up _ _ hp;refine⟨hnew.typeIs,F.args_dict_init_2 (.ref s.heap.objs.size) (.ref p),?_⟩
 with_unfolding_all refine Ue (m:=Zf _ _) (Ue (Z5 hnew.typeIs (Us ?_)))
 show wpAny _ _ (WQ "dict.__init__" s.heap.objs.size (.ref p) [] .none) _ _ _;unfold WQ;refine Ue (Xh (T:= "tuple") ⟨o,hp1,hc⟩ ?_);rw[if_pos (by decide)];refine Ue (qG hp1 hc hdt hdn hh λh1 tk1 k1=>?_);simp only[Option.isNone_none,if_true];refine Ue (ZN ?_);have htp1:h1.IsTuple p items:=⟨o,k1 _ _ hp1,hc,n,hdt⟩
 refine Ue (XC htp1 ?_);have up2: ∀ b o,h1.get? b=some o->(h1.push { cls:= .type "tuple_iterator",data:= .fields #[.ref p,.int 0 0] }).get? b=some o:=λb o e=>Uk _ e;have hd1:h1.get? s.heap.objs.size=some { cls:= .type "dict",data:= .dict #[] }:=k1 _ _ (UB _ rfl);have hpl:p < h1.objs.size:=Ux (k1 _ _ hp1);have hdl:s.heap.objs.size < h1.objs.size:=Ux hd1;have hps:p < s.heap.objs.size:=Ux hp;refine Us ⟨plainId_quiet cI _,?_⟩;refine vo (A:=A.in1) (it:=h1.objs.size) (tp:=p) (kvs:=kvs) hh (UK hpl) (UK hdl) (Xg hps) hl hz items.size 0 0 _ [] rfl (Vd _) (Uo _) ⟨_,UB _ rfl,rfl,rfl⟩ (htp1.push _) ?_ ⟨_,up2 _ _ hd1,rfl⟩ ⟨_,UB _ rfl,rfl⟩ ?_ ?_
 . exact(hnew.at λo e=>up2 _ o (k1 _ o e))
 . exact λj v kv e1 e2=>(hP j v kv e1 e2).keeps λb o e _=>up2 b o (k1 b o (up b o e))
 . rintro s' dd ⟨h3,tk3,rfl⟩ keep3;refine⟨rfl,h h3 tk3 (by simpa using dd) λb o e=>keep3 b o (UK (Ux e)) (UK (Ux (k1 _ _ (up _ _ e)))) (up2 _ _ (k1 _ _ (up _ _ e)))⟩
end
section
variable{X:Cx}
noncomputable def rG(H:Hp)(y:V)(kv:Key × V):Prop:= ∃ b,y= .ref b/\H b=some (.tup [kV kv.1,kv.2])
theorem rY{P:UN}{w:World}{H:Hp}{h:Heap}(ok:ka P w H h): ∀{ys:List V}{kvs:List (Key × V)}{aj:List Value},Vt (rG H) ys kvs->Vals ys aj-> ∃ vs:List (Key × Value),KV kvs vs/\vs.length=aj.length /\
  ∀(j:Nat)(v:Value)(kv:Key × Value),aj[j]?=some v->vs[j]?=some kv->mX P w h v kv
 | _,_,_,.nil,.nil=>⟨[],.nil,rfl,λj v kv e=>by simp at e⟩
 | _,_,_,.cons (b:=kv0) hp hr,.cons hv hrv=>by
  obtain⟨vs,h1,h2,h3⟩:=rY ok hr hrv;obtain⟨b,rfl,hb⟩:=hp;obtain⟨_,its0,r0,o,e1,e2,n,e3,_⟩:=(show ba P w H h b (.tup [kV kv0.1,kv0.2]) from ok b _ hb)
  obtain⟨u1,u2,rfl,r1,r2⟩:=vals2 r0;cases(show _=UJ b from hv);refine⟨(kv0.1,u2)::vs,.cons ⟨rfl,r2⟩ h1,by simp[h2],λj v kv f1 f2=>?_⟩;cases j with
  | zero =>
   simp only[Zs,W9] at f1 f2
   subst f1 f2
   exact⟨b,o,u1,n,rfl,e1,e2,e3,lE r1⟩
  | succ j=>exact h3 j v kv (by simpa using f1) (by simpa using f2)
theorem KV.vi{kvs:List (Key × V)}{vs:List (Key × Value)}(r:KV kvs vs):KV (dj [] kvs) (merged [] vs):=KV.merge r .nil
theorem nY(hc:X.calm=true):aV X (.type "dict") (λxs H Q=> ∃ p ys kvs,xs=[.ref p]/\H p=some (.tup ys)/\Vt (rG H) ys kvs/\ys.length < sizeLine/\ ∀ d,H d=none->Q (.ref d) (upd H d (.dK (dj [] kvs)))):=by
 intro pins s σ H xs us Q I r h;obtain⟨p,ys,kvs,rfl,hp,hP,hz,q⟩:=h;obtain⟨u,rfl,ru⟩:=vals1 r;cases(show u=UJ p from ru);obtain⟨_,aj,r0,o,e1,e2,n,e3,e4⟩:=(show ba X.prog X.w H s.heap p (.tup ys) from I.bD p _ hp)
 obtain⟨vs,h1,h2,h3⟩:=rY I.bD hP r0;have hlen:=r0.length;have hk:=Xp hP;refine qI (kvs:=vs) (I.ok.hd hc) I.big e1 e2 e3 e4 (by simpa using h2) (by simp;omega) (λj v kv f1 f2=>h3 j v kv (by simpa using f1) f2) λh' tk dd keep=>?_;have hle:(dj [] kvs).length<=sizeLine:=by have:=eP kvs [];simp at this;omega
 obtain⟨hn,I'⟩:=I.mJ (a:=s.heap.objs.size) (o:= .dK (dj [] kvs)) (t':=tk) keep (V6 (Uo _)) (tU hle (beq_eq_false_iff_ne.mpr (V3 (UK I.big))) (KV.vi h1) dd);exact⟨.ref _,_,I',rfl,q _ hn⟩
end
noncomputable def nG(P:UN)(w:World)(K:Ud)(mg:Str->Option Value)(base:Heap)(x:Str)(k:Nat)(ps:List Str)(sp:Sp):Prop :=
 ∃(f:Addr)(fd:V0),lV P w K mg base ue k f fd ps sp/\mg x=some (.ref f)/\WN K (.ref f)=true/\Binds K fd ps []/\ ∀ us:List Value,us.length=ps.length->WV fd ⟨us,[]⟩=pure (ps.zip us)
theorem Bx.args{K:Ud}{x qual:Str}{st:Stmt}{f:Addr}{fd:V0}{ps:List Str}(F:Bx K x qual st f fd)
  (h: ∀(kV doc pm:Value)(an:Option Addr)(cdv ct:Value)(us:List Value),us.length=ps.length->WV (Vu x qual (cJ st) (bq st) (ax st) .none kV doc pm an cdv ct) ⟨us,[]⟩=pure (ps.zip us)): ∀ us:List Value,us.length=ps.length->WV fd ⟨us,[]⟩=pure (ps.zip us):=by
 obtain⟨oc,od,kV,doc,pm,an,cdv,ct,osl,rfl,lk,hcd⟩:=F.ex;exact h kV doc pm an cdv ct
noncomputable def At(K:Ud)(mg:Str->Option Value)(x:Str)(st:Stmt):Prop:= ∃(f:Addr)(fd:V0),Bx K x x st f fd/\mg x=some (.ref f)
section
variable{P:UN}{w:World}{K:Ud}{mg:Str->Option Value}{base:Heap}
theorem At.ok{x:Str}{st:Stmt}{N ps:List Str}{k:Nat}{sp:Sp}(a:At K mg x st)(S:d9 N ps (ax st))
  (hb: ∀(kV doc pm:Value)(an:Option Addr)(cdv ct:Value)(us:List Value),us.length=ps.length->WV (Vu x x (cJ st) (bq st) (ax st) .none kV doc pm an cdv ct) ⟨us,[]⟩=pure (ps.zip us))
  (len: ∀ vs H Q E,sp vs H Q E->vs.length=ps.length)
  (hbody: ∀(f:Addr)(cdv:Value)(A:U6)(outer:List Env)(s:Uj)(H:Hp)(vs:List V)(Q:VK)(E:XK),dP k (A.deeper (YG x (ax st) s.heap.objs.size f cdv))->sp vs H Q E ->
   ∃ t,xw (j5 ue P w K mg base N x (ax st) f cdv A outer s H E).qy (bq st) t/\t { nx:=λ_ H'=>Q .non H',rt:=Q } (start N vs) H):nG P w K mg base x (k+1) ps sp:=by
 obtain⟨f,fd,F,hm⟩:=a;exact⟨f,fd,F.ok S len λcdv A outer s H vs Q E=>hbody f cdv A outer s H vs Q E,hm,F.kp,F.binds hb,F.args hb⟩
theorem At.zI{x:Str}{st:Stmt}{ps:List Str}{sp:Sp}(a:At K mg x st)(hb: ∀(kV doc pm:Value)(an:Option Addr)(cdv ct:Value)(us:List Value),us.length=ps.length->WV (Vu x x (cJ st) (bq st) (ax st) .none kV doc pm an cdv ct) ⟨us,[]⟩=pure (ps.zip us))
  (no: ∀ vs H Q E,¬ sp vs H Q E):nG P w K mg base x 0 ps sp:=by
 obtain⟨f,fd,F,hm⟩:=a;exact⟨f,fd,⟨λvs H Q E h=>absurd h (no vs H Q E),λA outer s H args us vs Q E _ _ _ _ h=>absurd h (no vs H Q E)⟩,hm,F.kp,F.binds hb,F.args hb⟩
end
section
variable{X:Cx}{x:Str}{k j:Nat}{ps:List Str}{sp:Sp}{e:Expr}{es:List Expr}{t:TA}{p pos:Pos}
theorem SJ(D:nG X.prog X.w X.K X.mg X.base x j ps sp)(hr:dP k X.A)(hg:Gl X x)(hj:j<=k)(ha:PA X (e::es) t)(hdb:(x == ("__debug__" :Str))=false:=by decide)
  (he:U7 (e::es) X.env=(false,eval e X.env)::U7 es X.env:=by rfl) (hpl:(XI pos (U7 es X.env)).any (·.1)=false:=by rfl):PE X (.Call (.Name x p) (e::es) [] pos) (zg sp [] E0 t):=by
 obtain⟨f,fd,F,hm,kp,bd,_⟩:=D;exact Gh F (hr.mono hj) hg hm kp bd .nil PU ha hdb he hpl
end
theorem aL{K:Ud}{mg:Str->Option Value}{h:Heap}{x:Str}{st:Stmt}{f:Addr}{oc:Value}{od an:Option Addr}{osl:Array (Option Value)}{kV doc pm cdv ct:Value}(X:K.In h)(G:h.Ns UI mg)
  (a:US K UI x=some (some (.ref f))) (l:K.lookup f=some ⟨oc,od,.func (Vu x x (cJ st) (bq st) (ax st) .none kV doc pm an cdv ct),osl⟩) (c:Yk K cdv x=true) (k:WN K (.ref f)=true):At K mg x st :=
 ⟨f,_,NY l c k,VQ X G a⟩
structure Bl(mg:Str->Option Value):Prop where
 len:mg "len" =none
 range:mg "range" =none
 isinstance:mg "isinstance" =none
 int:mg "int" =none
 bool:mg "bool" =none
 tuple:mg "tuple" =none
 dict:mg "dict" =none
 sorted:mg "sorted" =none
 min:mg "min" =none
 max:mg "max" =none
 abs:mg "abs" =none
noncomputable def Kp(a:Addr)(H H':Hp):Prop:= ∀ b o,b≠a->H b=some o->H' b=some o
theorem Kp.trans{a:Addr}{H H1 H2:Hp}(x:Kp a H H1)(y:Kp a H1 H2):Kp a H H2:=λb o n h=>y b o n (x b o n h)
theorem qR.kp{a:Addr}{H H':Hp}(x:qR H H'):Kp a H H':=λb o _ h=>x b o h
theorem Kp.st{a:Addr}{H:Hp}{o:HO}:Kp a H (upd H a o):=λb u n q=>by rw[aB n];exact q
theorem Kp.lst{a b:Addr}{H H':Hp}{K:Ud}{xs:List V}{kvs:List (Key × V)}(x:Kp a H H')(ha:H a=some (.dK kvs))(h:iS K H b xs):iS K H' b xs:=by
 rcases h with(h | ⟨o,h⟩) | h
 . exact .inl (.inl (x _ _ (rQ h ha (by intro z;cases z)) h))
 . exact .inl (.inr ⟨o,x _ _ (rQ h ha (by intro z;cases z)) h⟩)
 . exact .inr h
theorem Kp.tup{a b:Addr}{H H':Hp}{xs:List V}{kvs:List (Key × V)}(x:Kp a H H')(ha:H a=some (.dK kvs))(h:H b=some (.tup xs)):H' b=some (.tup xs):=x _ _ (rQ h ha (by intro z;cases z)) h
class vv (t:TE):Prop where
 m: ∀ σ H Q Q',(∀ x H1,Q x H1->Q' x H1)->t σ H Q->t σ H Q'
class uM (t:TT):Prop where
 m: ∀ σ H Q Q',(∀ x H1,Q x H1->Q' x H1)->t σ H Q->t σ H Q'
class TN (t:TA):Prop where
 m: ∀ σ H Q Q',(∀ x H1,Q x H1->Q' x H1)->t σ H Q->t σ H Q'
class Tj (t:TO):Prop where
 m: ∀ σ H Q Q',(∀ x H1,Q x H1->Q' x H1)->t σ H Q->t σ H Q'
class S4 (t:TI):Prop where
 m: ∀ σ H Q Q',(∀ x H1,Q x H1->Q' x H1)->t σ H Q->t σ H Q'
class TF (r:R2):Prop where
 m: ∀ x y H Q Q',(∀ x H1,Q x H1->Q' x H1)->r x y H Q->r x y H Q'
class Tq (r:V->Hp->VK->Prop):Prop where
 m: ∀ x H Q Q',(∀ x H1,Q x H1->Q' x H1)->r x H Q->r x H Q'
class S7 (r:List V->Hp->VK->Prop):Prop where
 m: ∀ x H Q Q',(∀ x H1,Q x H1->Q' x H1)->r x H Q->r x H Q'
class TH (r:V->List V->Hp->VK->Prop):Prop where
 m: ∀ x xs H Q Q',(∀ x H1,Q x H1->Q' x H1)->r x xs H Q->r x xs H Q'
class TK (r:V->Option Int->Option Int->Hp->VK->Prop):Prop where
 m: ∀ x l u H Q Q',(∀ x H1,Q x H1->Q' x H1)->r x l u H Q->r x l u H Q'
class Sb (sp:Sp):Prop where
 m: ∀ vs H Q Q' E,(∀ x H1,Q x H1->Q' x H1)->sp vs H Q E->sp vs H Q' E
section
variable{X:Cx}
noncomputable def QX(K:Ud):List V->Hp->VK->Prop:=λxs H Q=> ∃ p ys,xs=[.ref p]/\(iS K H p ys\/fM K H p ys)/\Q (.int ys.length) H
noncomputable def OW:List V->Hp->VK->Prop:=λxs H Q=> ∃ z,xs=[.str z]/\z.length<=sizeLine/\Q (.int z.length) H
theorem HI:aV X (.builtin "len") (λxs H Q=>QX X.K xs H Q\/OW xs H Q):=tH.or sT
noncomputable def Q1(K:Ud):List V->Hp->VK->Prop:=λxs H Q=> ∃ x T t b,xs=[x,.ty T]/\jW K H x t/\YE K t (.type T)=some b/\Q (.bl b) H
theorem Fz:aV X (.builtin "isinstance") (Q1 X.K):=uO
noncomputable def Dp(K:Ud):List V->Hp->VK->Prop:=λxs H Q=> ∃ p ss,xs=[.ref p]/\iS K H p (ss.map V.str)/\ss.length < 64/\ ∀ l ss',H l=none->ss'.Perm ss->Y4 ss'=true->Q (.ref l) (upd H l (.lst (ss'.map V.str)))
noncomputable def BV:List V->Hp->VK->Prop:=λxs H Q=> ∃ d kvs ss,xs=[.ref d]/\H d=some (.dK kvs)/\kvs.map (·.1)=ss.map VZ/\ss.length < 64/\ ∀ l ss',H l=none->ss'.Perm ss->Y4 ss'=true->Q (.ref l) (upd H l (.lst (ss'.map V.str)))
noncomputable def LP:List V->Hp->VK->Prop:=λxs H Q=> ∃ p ys kvs,xs=[.ref p]/\H p=some (.tup ys)/\Vt (rG H) ys kvs/\ys.length < sizeLine/\ ∀ d,H d=none->Q (.ref d) (upd H d (.dK (dj [] kvs)))
theorem BW(hc:X.calm=true):aV X (.type "dict") LP:=nY hc
noncomputable def P5:List V->Hp->VK->Prop:=λxs H Q=>(∃ i,xs=[.int i]/\Q (.int i) H)\/ ∃ k,xs=[.bl k]/\Q (.int (if k then 1 else 0)) H
noncomputable def KZ(K:Ud):List V->Hp->VK->Prop:=λxs H Q=> ∃ p ys,xs=[.ref p]/\((iS K H p ys/\ ∀ l,H l=none->Q (.ref l) (upd H l (.tup ys)))\/(fM K H p ys/\Q (.ref p) H))
theorem GZ:aV X (.type "int") P5:=AL
theorem Gd:aV X (.type "tuple") (KZ X.K):=qz
end
structure M0(D D':Ends):Prop where
 nx: ∀ σ H,D.nx σ H->D'.nx σ H
 rt: ∀ v H,D.rt v H->D'.rt v H
 bk: ∀ σ H,D.bk σ H->D'.bk σ H
 ct: ∀ σ H,D.ct σ H->D'.ct σ H
class Tw (t:TS):Prop where
 m: ∀ D D' σ H,M0 D D'->t D σ H->t D' σ H
class vH (g:TG):Prop where
 m: ∀ x σ H Q Q',(∀ σ2 H2,Q σ2 H2->Q' σ2 H2)->g x σ H Q->g x σ H Q'
class RZ (g:uA):Prop where
 m: ∀ x σ H Q Q',(∀ σ2 H2,Q σ2 H2->Q' σ2 H2)->g x σ H Q->g x σ H Q'
theorem QY{K:Ud}{a:Addr}{xs:List V}{k:Nat}{g:TG}{tt:TT}{te:TE}[vH g][uM tt][vv te]{σ :St}{H:Hp}{Q:VK}(Pv:Nat->List V->Hp->Prop)(h0:Pv 0 [] H)(hl: ∀ i ys H,i<=xs.length->Pv i ys H->fM K H a xs/\ys.length<=i)(hz:xs.length<=sizeLine)
  (hs: ∀ i x ys H,xs[i]?=some x->Pv i ys H->g x (σ ++Up k none) H fun σ2 H2=>tt σ2 H2 λb H3=>if b=true then te σ2 H3 λy H4=>Pv (i+1) (ys++[y]) H4 else Pv (i+1) ys H3)
  (hd: ∀ ys H,Pv xs.length ys H-> ∀ p,H p=none->Q (.ref p) (upd H p (.lst ys))) :
  ∃ W:Nat->Nat->List V->Hp->Prop,(∃ m,W 0 m [] H)∧ ∀ i m ys H,W i m ys H->((CU K a).stop i H∧ ∀ p,H p=none->Q (.ref p) (upd H p (.lst ys))) ∨
   ((CU K a).go i H∧ys.length < sizeLine∧ ∀ x H',(CU K a).Ja i H x H'->g x (σ ++Up k none) H' fun σ2 H2=>tt σ2 H2 λb H3=>if b=true then te σ2 H3 λy H4=> ∃ m',m' < m∧W (i+1) m' (ys++[y]) H4 else ∃ m',m' < m∧W (i+1) m' ys H3):=Jz (K:=K) (a:=a) (k:=k) (g:=g) (tt:=tt) (te:=te) (σ := σ) (Q:=Q) Pv h0 hl hz hs hd (λx σ H Q Q' f h=>vH.m (g:=g) x σ H Q Q' f h) (uM.m (t:=tt)) (vv.m (t:=te))
noncomputable def stK(a:Addr)(k:Int)(l:Option Int):List (Key × V):=match l with
 | none=>[(.inr "script",.ref a),(.inr "k",.int k)]
 | some l=>[(.inr "script",.ref a),(.inr "k",.int k),(.inr "left",.int l)]
noncomputable def yB(K:Ud)(H:Hp)(a:Addr)(xs:List V):Prop:=(∃ o,H a=some (.kI o (.lst xs))) \/
 ∃(o:Obj)(aj:Array Value)(n:Nat),K.lookup a=some o/\o.cls= .type "list" /\o.dict=none/\o.data= .seq aj n/\aj.size<=sizeLine/\Vals xs aj.toList
theorem yB.sq{K:Ud}{H:Hp}{a:Addr}{xs:List V}(h:yB K H a xs):iS K H a xs:=by
 rcases h with⟨o,h⟩ | h
 . exact .inl (.inr ⟨o,h⟩)
 . exact .inr h
theorem yB.upd{K:Ud}{H:Hp}{a c:Addr}{xs:List V}{u o':HO}(h:yB K H a xs)(hc:H c=some u)(hu: ∀ o w,u≠ .kI o w):yB K (upd H c o') a xs:=by
 rcases h with⟨o,h⟩ | h
 . exact .inl ⟨o,by rw[aB (rQ h hc λz=>hu _ _ z.symm)];exact h⟩
 . exact .inr h
theorem Kp.kI{st a:Addr}{H H':Hp}{K:Ud}{xs:List V}{kvs:List (Key × V)}(x:Kp st H H')(ha:H st=some (.dK kvs))(h:yB K H a xs):yB K H' a xs:=by
 rcases h with⟨o,h⟩ | h
 . exact .inl ⟨o,x _ _ (rQ h ha (by intro z;cases z)) h⟩
 . exact .inr h
theorem qR.kI{a:Addr}{H H':Hp}{K:Ud}{xs:List V}(x:qR H H')(h:yB K H a xs):yB K H' a xs:=by
 rcases h with⟨o,h⟩ | h
 . exact .inl ⟨o,x _ _ h⟩
 . exact .inr h
noncomputable def rl(K:Ud)(H:Hp)(st:Addr)(k:Int)(l:Option Int):Prop:= ∃(a:Addr)(ns:List Int),H st=some (.dK (stK a k l))/\yB K H a (ns.map V.int)/\ns.length<=63/\0<=k
theorem rl.keep{K:Ud}{H H':Hp}{st:Addr}{k:Int}{l:Option Int}(x:rl K H st k l)(y:Kp st H H')(e:H' st=H st):rl K H' st k l :=
 let ⟨a,ns,h1,h2,h3,h4⟩:=x;⟨a,ns,e.trans h1,y.kI h1 h2,h3,h4⟩
theorem rl.upd{K:Ud}{H:Hp}{st c:Addr}{k:Int}{l:Option Int}{u o:HO}(x:rl K H st k l)(hc:H c=some u)(hu: ∀ o w,u≠ .kI o w)(hn:c≠st):rl K (upd H c o) st k l :=
 let ⟨a,ns,h1,h2,h3,h4⟩:=x;⟨a,ns,by rw[aB (V3 hn)];exact h1,h2.upd hc hu,h3,h4⟩
theorem rl.at{K:Ud}{H:Hp}{st:Addr}{k:Int}{l:Option Int}(x:rl K H st k l): ∃ kvs,H st=some (.dK kvs):=let ⟨a,ns,h1,_⟩:=x;⟨_,h1⟩
theorem rl.pos{K:Ud}{H:Hp}{st:Addr}{k:Int}{l:Option Int}(x:rl K H st k l):0<=k:=let ⟨a,ns,h1,_,_,h⟩:=x;h
noncomputable def noStar:Expr->Bool
 | .Starred _ _=>false
 | _=>true
theorem cy{e:Expr}{es:List Expr}{env:Env}(h:noStar e=true):U7 (e::es) env=(false,eval e env)::U7 es env:=by
 cases e<;>first | rfl | cases h
theorem kS{pos:Pos}{env:Env}: ∀{es:List Expr},es.all noStar=true->(XI pos (U7 es env)).any (·.1)=false
 | [],_=>rfl
 | e::es,h=>by
  have h:=Bool.and_eq_true_iff.mp (Xs ▸ h);rw[cy h.1];have:=kS (pos:=pos) (env:=env) h.2;unfold XI at this ⊢;simp only[Ul,VJ,abP];exact this
section
variable{X:Cx}{e:Expr}{es:List Expr}{te:TE}{t:TA}
theorem pk(ha:PE X e te)(hr:PA X es t)(hs:noStar e=true:=by rfl):PA X (e::es) (BF te t):=FY ha hr (cy hs)
variable{x:Str}{k j:Nat}{ps:List Str}{sp:Sp}{p pos:Pos}{id T:String}{r:List V->Hp->VK->Prop}
theorem kd(D:nG X.prog X.w X.K X.mg X.base x j ps sp)(hr:dP k X.A)(hg:Gl X x)(hj:j<=k)(ha:PA X (e::es) t)(hdb:(x == ("__debug__" :Str))=false:=by decide)(he:noStar e=true:=by rfl)(hpl:es.all noStar=true:=by rfl) :
  PE X (.Call (.Name x p) (e::es) [] pos) (zg sp [] E0 t):=SJ D hr hg hj ha hdb (cy he) (kS hpl)
theorem kB(hc:aV X (.builtin id) r)(hg:Gl X x)(hm:X.mg x=none)(hv:VA x=some (.builtin id))(ha:PA X (e::es) t)(hn:x≠ "__name__" :=by decide)(hdb:(x == ("__debug__" :Str))=false:=by decide)(he:noStar e=true:=by rfl)(hpl:es.all noStar=true:=by rfl) :
  PE X (.Call (.Name x p) (e::es) [] pos) (Lc r t):=Cu hc hg hm hv ha hn hdb (cy he) (kS hpl)
theorem kT(hc:aV X (.type T) r)(hg:Gl X x)(hm:X.mg x=none)(hv:VA x=some (.type T))(ha:PA X (e::es) t)(hn:x≠ "__name__" :=by decide)(hdb:(x == ("__debug__" :Str))=false:=by decide)(he:noStar e=true:=by rfl)(hpl:es.all noStar=true:=by rfl) :
  PE X (.Call (.Name x p) (e::es) [] pos) (Lc r t):=Ac hc hg hm hv ha hn hdb (cy he) (kS hpl)
end
structure QE(X:Cx)(e:Expr)(t:TE):Prop where h:PE X e t
structure QT(X:Cx)(e:Expr)(t:TT):Prop where h:PT X e t
structure QW(X:Cx)(e:Expr)(t:TT):Prop where h:PW X e t
structure QA(X:Cx)(es:List Expr)(t:TA):Prop where h:PA X es t
structure QO(X:Cx)(e:Option Expr)(t:TO):Prop where h:PO X e t
structure QS(X:Cx)(s:Stmt)(t:TS):Prop where h:PS X s t
structure CD(X:Cx)(s:List Stmt)(t:TS):Prop where h:xw X s t
structure QG(X:Cx)(e:Expr)(t:TG):Prop where h:PG X e t
structure Mm(X:Cx)(e:List Expr)(t:uA):Prop where h:O0 X e t
structure QI(X:Cx)(tg e:Expr)(t:TI):Prop where h:PI X tg e t
structure QF(X:Cx)(es:List Expr)(t:TT):Prop where h:PF X es t
structure QP(X:Cx)(pos:Pos)(ks:List (Option Expr))(vs:List Expr)(t:List (TE × TE)):Prop where h:Qn X pos ks vs t
section
variable{X:Cx}{a b c e o i:Expr}{es:List Expr}{ta tb tc te td ty tx tv to ti:TE}{t t':TT}{tr:TA}{pos p p2 pos' apos cpos:Pos}{x y:Str}
theorem qv(i:Nat){x:Str}{pos:Pos}(hN:X.N[i]?=some x:=by rfl)(hv:N7 X.env.scope x:=by first | exact abl rfl | exact aah (abl rfl) | exact aah (aah rfl))(hd:(x == ("__debug__" :Str))=false:=by decide)
  (hcd:(x == ("__classdict__" :Str))=false:=by decide):QE X (.Name x pos) (Ob i):=⟨Kf hN hv hd hcd⟩
theorem LA{n:Int}{j:Nat}:QE X (.Constant (.int n) j pos) (tC (.int n)):=⟨KR⟩
theorem Q9{n:Bool}{j:Nat}:QE X (.Constant (.bool n) j pos) (tC (.bl n)):=⟨Q8⟩
theorem NM{j:Nat}:QE X (.Constant .none j pos) (tC .non):=⟨K6⟩
theorem Mh{n:Str}{j:Nat}:QE X (.Constant (.str n) j pos) (tC (.str n)):=⟨LU⟩
theorem zD{v:V}{u:Value}(hg:Gl X x)(hm:X.mg x=some u)(r:RelV v u)(hd:(x == ("__debug__" :Str))=false:=by decide):QE X (.Name x pos) (tC v):=⟨yK hg hm r hd⟩
theorem Gw{v:V}{u:Value}(hg:Gl X x)(hm:X.mg x=none)(hv:VA x=some u)(r:RelV v u)(hn:x≠ "__name__" :=by decide)(hd:(x == ("__debug__" :Str))=false:=by decide):QE X (.Name x pos) (tC v):=⟨Hv hg hm hv r hn hd⟩
theorem Og{op:Operator}{r:R2}(ho:dw X (VD op) r)(ha:QE X a ta)(hb:QE X b tb):QE X (.BinOp a op b pos) (HK r ta tb):=⟨O9 ho ha.h hb.h⟩
theorem Mx(ha:QE X a ta):QE X (.UnaryOp .Not a pos) (Iz ta):=⟨L7 ha.h⟩
theorem J6{op:BoolOp}(h:QE X a ta):QE X (.BoolOp op [a] pos) ta:=⟨Jq h.h⟩
theorem MJ{rest:List Expr}(ha:QE X a ta)(hb:QE X (.BoolOp .And (b::rest) pos) tb):QE X (.BoolOp .And (a::b::rest) pos) (IB ta tb):=⟨Kx ha.h hb.h⟩
theorem Oe{rest:List Expr}(ha:QE X a ta)(hb:QE X (.BoolOp .Or (b::rest) pos) tb):QE X (.BoolOp .Or (a::b::rest) pos) (Qq ta tb):=⟨Rf ha.h hb.h⟩
theorem Dm(hc:QT X c t)(ha:QE X a ta)(hb:QE X b tb):QE X (.IfExp c a b pos) (TC t ta tb):=⟨C9 hc.h ha.h hb.h⟩
theorem J8{x1}(h:QA X es tr):QE X (.Tuple es x1 pos) (Qa tr):=⟨Kj h.h⟩
theorem Kw(h:QA X es tr):QE X (.List es pos) (Oh tr):=⟨M3 h.h⟩
theorem Dh:QE X (.Dict [] [] pos) DM:=⟨Ea⟩
theorem Fb:QP X pos [] [] []:=⟨EN⟩
theorem Dy{k v:Expr}{ks:List (Option Expr)}{vs:List Expr}{tk:TE}{trs:List (TE × TE)}(hk:QE X k tk)(hv:QE X v tv)(hr:QP X pos ks vs trs):QP X pos (some k::ks) (v::vs) ((tk,tv)::trs):=⟨C5 hk.h hv.h hr.h⟩
theorem Ga{ks:List (Option Expr)}{vs:List Expr}{trs:List (TE × TE)}(h:QP X pos ks vs trs)(hall:ks.all (·.isSome)=true)(hl:ks.length=vs.length)(h0:ks≠[])(h15:ks.length<=15):QE X (.Dict ks vs pos) (Ik trs):=⟨Hj h.h hall hl h0 h15⟩
theorem EU:QO X none yx:=⟨FH⟩
theorem GO(h:QE X e te):QO X (some e) (Iy te):=⟨Fs h.h⟩
theorem Cs{r:V->Option Int->Option Int->Hp->VK->Prop}{lo hi:Option Expr}{tl th:TO}(hr:EK X r)(he:QE X e te)(hl:QO X lo tl)(hu:QO X hi th):QE X (.Subscript e (.Slice lo hi none p2) pos) (Tz r te tl th):=⟨Dw hr he.h hl.h hu.h⟩
theorem Oj{r:R2}(hr:zU X r)(ha:QE X a ta)(hb:QE X b tb)(hs:uj b):QE X (.Subscript a b pos) (HK r ta tb):=⟨O5 hr ha.h hb.h hs⟩
theorem CS{f:Expr}(hu:X.A.units+1 < cLine)(ho:QE X o td)(he:QE X e ty)(hf:QE X f tx)(m:M2 X o "get" apos e f cpos):QE X (.Call (.Attribute o "get" apos) [e,f] [] cpos) (Cm td ty tx):=⟨D7 hu ho.h he.h hf.h m⟩
theorem Eb:QA X [] Oc:=⟨Li⟩
theorem qk(ha:QE X e te)(hr:QA X es tr)(hs:noStar e=true:=by rfl):QA X (e::es) (BF te tr):=⟨pk ha.h hr.h hs⟩
variable{k j:Nat}{ps:List Str}{sp:Sp}{id T:String}{r:List V->Hp->VK->Prop}
theorem qd(D:nG X.prog X.w X.K X.mg X.base x j ps sp)(hr:dP k X.A)(hg:Gl X x)(hj:j<=k)(ha:QA X (e::es) tr)(hdb:(x == ("__debug__" :Str))=false:=by decide)(he:noStar e=true:=by rfl)(hpl:es.all noStar=true:=by rfl) :
  QE X (.Call (.Name x p) (e::es) [] pos) (zg sp [] E0 tr):=⟨kd D hr hg hj ha.h hdb he hpl⟩
theorem qB(hc:aV X (.builtin id) r)(hg:Gl X x)(hm:X.mg x=none)(hv:VA x=some (.builtin id))(ha:QA X (e::es) tr)(hn:x≠ "__name__" :=by decide)(hdb:(x == ("__debug__" :Str))=false:=by decide)(he:noStar e=true:=by rfl)(hpl:es.all noStar=true:=by rfl) :
  QE X (.Call (.Name x p) (e::es) [] pos) (Lc r tr):=⟨kB hc hg hm hv ha.h hn hdb he hpl⟩
theorem qT(hc:aV X (.type T) r)(hg:Gl X x)(hm:X.mg x=none)(hv:VA x=some (.type T))(ha:QA X (e::es) tr)(hn:x≠ "__name__" :=by decide)(hdb:(x == ("__debug__" :Str))=false:=by decide)(he:noStar e=true:=by rfl)(hpl:es.all noStar=true:=by rfl) :
  QE X (.Call (.Name x p) (e::es) [] pos) (Lc r tr):=⟨kT hc hg hm hv ha.h hn hdb he hpl⟩
theorem Ir{name:Str}{rm:V->List V->Hp->VK->Prop}(pa:aaQ T)(slot:Slot T name id)(hty:typeOf (.builtin id)=pure (.type "method_descriptor"))(hm:Jg X id rm)(ho:QE X o to)(ha:QA X [e] tr)
  (hbase:WJ o name X.env (eval o X.env)=eval o X.env:=by rfl) (hline:(apos.endLine == cpos.line)=true:=by rfl) (hs:noStar e=true:=by rfl) :
  QE X (.Call (.Attribute o name apos) [e] [] cpos) (Tx X.K T rm to tr):=⟨PM pa slot hty hm ho.h ha.h hbase (by rw[cy hs];rfl) hline (cy hs) rfl⟩
theorem Fv{op:CmpOp}{r:R2}(ho:dw X (UY op) r)(ha:QE X a ta)(hb:QE X b tb)(hm:VH op b=false):QE X (.Compare a [op] [b] pos) (HK r ta tb):=⟨Fh ho ha.h hb.h hm⟩
theorem Gf{op:CmpOp}{r:R2}(ho:dw X (UY op) r)(ha:QE X a ta)(hb:QE X b tb)(hm:VH op b=false):QT X (.Compare a [op] [b] pos) (CZ (HK r ta tb)):=⟨FG ho ha.h hb.h hm⟩
theorem Ds{op op':CmpOp}{r r':R2}(ho:dw X (UY op) r)(ho':dw X (UY op') r')(ha:QE X a ta)(hb:QE X b tb)(hc:QE X c tc)(hm:lastMarks [op,op'] [b,c]=false:=by with_unfolding_all rfl):QE X (.Compare a [op,op'] [b,c] pos) (wR r r' ta tb tc):=⟨EE ho ho' ha.h hb.h hc.h hm⟩
theorem Lq{j:Nat}(ha:QE X a ta):QE X (.Compare a [.Is] [.Constant .none j pos'] pos) (Lw ta):=⟨Nj (DH ha.h)⟩
theorem KQ{j:Nat}(ha:QE X a ta):QT X (.Compare a [.Is] [.Constant .none j pos'] pos) (tB (Lw ta)):=⟨DG (DH ha.h)⟩
theorem FJ{j:Nat}(ha:QE X a ta):QT X (.Compare a [.IsNot] [.Constant .none j pos'] pos) (tB (Jk ta)):=⟨DG (Hw ha.h)⟩
theorem Hn(ha:QT X a t):QW X (.BoolOp .And [a] pos) t:=⟨pw_and1 ha.h⟩
theorem Mf(ha:QT X a t):QW X (.BoolOp .Or [a] pos) t:=⟨pw_or1 ha.h⟩
theorem KN{rest:List Expr}(ha:QT X a t)(hb:QW X (.BoolOp .And (b::rest) pos) t'):QW X (.BoolOp .And (a::b::rest) pos) (QB t t'):=⟨pw_and ha.h hb.h⟩
theorem OC{rest:List Expr}(ha:QT X a t)(hb:QW X (.BoolOp .Or (b::rest) pos) t'):QW X (.BoolOp .Or (a::b::rest) pos) (Tf t t'):=⟨pw_or ha.h hb.h⟩
theorem QW.pt(h:QW X e t):QT X e t:=⟨h.h.pt⟩
theorem Jr(ha:QT X a t):QT X (.UnaryOp .Not a pos) (Qv t):=⟨M4 ha.h⟩
theorem NC(h:QE X e te)(he: ∀ whole,abe e X.env whole=(do let v <- whole;abF e.pos;Yq [v] (truthy v)):=by intro _;rfl):QT X e (tB te):=⟨Mi h.h he⟩
theorem yT{i:Nat}(hN:X.N.Nodup)(hi:X.N[i]?=some x)(hx:Loc X.env.scope x)(hf:X.fn x=true\/X.env.scope.names.lookup x=some .local:=by first | exact .inl rfl | exact .inr rfl | assumption):QG X (.Name x pos) (eA i):=⟨HB hN hi hx hf⟩
theorem zw:Mm X [] yt:=⟨Hf⟩
theorem vf{t:TG}{u:uA}(h1:QG X e t)(h2:Mm X es u)(hs:(Vv (e::es) X.env).map (·.2)=XJ e X.env::(Vv es X.env).map (·.2):=by rfl):Mm X (e::es) (jB t u):=⟨B8 h1.h h2.h hs⟩
theorem Es{k:Nat}{t:uA}{n:Nat}(hc:X.calm=true)(h:Mm X es t)(hn:(Vv es X.env).length=n:=by rfl)(hst:(Vv es X.env).findIdx? (·.1)=none:=by rfl):QG X (.Tuple es k pos) (wb X.K n t):=⟨LW hc h.h hn hst⟩
variable{tg iter l:Expr}{wi:TI}{g:TG}{ta':TA}
theorem NF:QF X [] IT:=⟨Kr⟩
theorem Ke(h:QT X c t):QF X [c] t:=⟨LK h.h⟩
variable{scope:Scope}{ifs:List Expr}{body rest:List Stmt}{spos py:Pos}{tb' ts us:TS}{st:Stmt}
theorem DY(vars:List Str)(hc:X.calm=true)(hx: ∀ v s,¬ X.xe v s)(hkind:scope.kind= .function)(hlc:iO scope.names X.env.scope.names X.N vars=true)(hi:QI X tg iter wi)
  (hb: ∀ cl C s₀ H₀ ex pn,QG (fk X vars scope cl C s₀ H₀ ex pn) tg g/\QF (fk X vars scope cl C s₀ H₀ ex pn) ifs t/\QE (fk X vars scope cl C s₀ H₀ ex pn) e te) (hgk:GK X.N.length g)
  (hs: ∀ x,U9 iter X.env x=pure x:=by intro _;rfl):QE X (.ListComp e [⟨tg,iter,ifs,0⟩] scope pos) (RE vars.length wi g t te) :=
 ⟨CO vars hc hx hkind hlc hi.h (λcl C s₀ H₀ ex pn=>let ⟨h1,h2,h3⟩:=hb cl C s₀ H₀ ex pn;⟨h1.h,h2.h,h3.h⟩) hgk hs⟩
theorem BY(vars:List Str)(i:Nat)(hc:X.calm=true)(hx: ∀ v s,¬ X.xe v s)(hkind:scope.kind= .function)(hlc:iO scope.names X.env.scope.names X.N vars=true)(hN:X.N.Nodup)(hiy:X.N[i]?=some y)(hy:Loc X.env.scope y)(hi:QI X tg iter wi)
  (hb: ∀ cl C s₀ H₀ ex pn,QG (fk X vars scope cl C s₀ H₀ ex pn) tg g/\QF (fk X vars scope cl C s₀ H₀ ex pn) ifs t/\QE (fk X vars scope cl C s₀ H₀ ex pn) e te) (hgk:GK X.N.length g)
  (hsw:W4 (.ListComp e [⟨tg,iter,ifs,0⟩] scope pos) (some (.Name y py)) spos.line X.env=pure true:=by rfl) (hs: ∀ x,U9 iter X.env x=pure x:=by intro _;rfl)
  (hf:X.fn y=true\/X.env.scope.names.lookup y=some .local:=by first | exact .inl rfl | exact .inr rfl | assumption) :
  QS X (.Assign [.Name y py] (.ListComp e [⟨tg,iter,ifs,0⟩] scope pos) spos) (BQ vars.length i wi g t te) :=
 ⟨Ew vars i hc hx hkind hlc hN hiy hy hi.h (λcl C s₀ H₀ ex pn=>let ⟨h1,h2,h3⟩:=hb cl C s₀ H₀ ex pn;⟨h1.h,h2.h,h3.h⟩) hgk hsw hs hf⟩
theorem Jo{i:Nat}(hN:X.N.Nodup)(hi:X.N[i]?=some x)(hx:Loc X.env.scope x)(he:QE X e te)(hs:W4 e (some (.Name x pos')) pos.line X.env=pure false:=by rfl)(hf:X.fn x=true\/X.env.scope.names.lookup x=some .local:=by first | exact .inl rfl | exact .inr rfl | assumption) :
  QS X (.Assign [.Name x pos'] e pos) (EY te (eA i)):=⟨JY hN hi hx he.h hs hf⟩
theorem CJ(he:QE X e te)(hg:QG X tg g)(hs:Y8 [tg] e pos.line X.env=pure false:=by rfl)(hw:Y9 [tg] e X.env=pure none:=by rfl)(h1:(Vv [tg] X.env).map (·.2)=[XJ tg X.env]:=by rfl):QS X (.Assign [tg] e pos) (EY te g):=⟨Ny he.h hg.h hs hw h1⟩
theorem PN{A B:List Stmt}(hc:QT X c t)(ha:CD X A ts)(hb:CD X B us):QS X (.If c A B pos) (Qr t ts us):=⟨Qo hc.h ha.h hb.h⟩
theorem JN(hp:Zm (model X.prog X.w) X.A X.env X.xe)(hc:X.calm=true)(hi:QI X tg iter wi)(hg:QG X tg g)(hb:CD X body tb')(hs: ∀ x,U9 iter X.env x=pure x:=by intro _;rfl):QS X (.For tg iter body [] pos) (Qd wi g tb'):=⟨MW hp hc hi.h hg.h hb.h hs⟩
theorem Eo(hp:Zm (model X.prog X.w) X.A X.env X.xe)(hc:QT X c t)(hb:CD X body tb'):QS X (.While c body [] pos) (Di t tb'):=⟨BP hp hc.h hb.h⟩
theorem HW(he:QE X e te)(hs:W4 e none pos.line X.env=pure false:=by rfl):QS X (.Expr e pos) (Iw te):=⟨HR he.h hs⟩
theorem Ky(he:QE X e te):QS X (.Return (some e) pos) (Of te):=⟨Lh he.h⟩
theorem HA:CD X [] DL:=⟨HP⟩
theorem Dk(h1:QS X st ts)(h2:CD X rest us):CD X (st::rest) (Lv ts us):=⟨DB h1.h h2.h⟩
theorem Ge(h1:QS X st ts):CD X [st] ts:=⟨E7 h1.h⟩
end
theorem At.SW{P:UN}{w:World}{K:Ud}{mg:Str->Option Value}{base:Heap}{x:Str}{st:Stmt}{N ps:List Str}{k:Nat}{sp:Sp}(a:At K mg x st)(S:d9 N ps (ax st))
  (hb: ∀(kV doc pm:Value)(an:Option Addr)(cdv ct:Value)(us:List Value),us.length=ps.length->WV (Vu x x (cJ st) (bq st) (ax st) .none kV doc pm an cdv ct) ⟨us,[]⟩=pure (ps.zip us))
  (len: ∀ vs H Q E,sp vs H Q E->vs.length=ps.length)
  (hbody: ∀(f:Addr)(cdv:Value)(A:U6)(outer:List Env)(s:Uj)(H:Hp)(vs:List V)(Q:VK)(E:XK),dP k (A.deeper (YG x (ax st) s.heap.objs.size f cdv))->sp vs H Q E ->
   ∃ t,CD (j5 ue P w K mg base N x (ax st) f cdv A outer s H E).qy (bq st) t/\t { nx:=λ_ H'=>Q .non H',rt:=Q } (start N vs) H):nG P w K mg base x (k+1) ps sp :=
 a.ok S hb len λf cdv A outer s H vs Q E hr h=>let ⟨t,q,z⟩:=hbody f cdv A outer s H vs Q E hr h;⟨t,q.h,z⟩
theorem lG{xs:List V}{r:Int}(h:0<=r):nV xs (some r) none=xs.drop r.toNat:=by
 have e:r=((r.toNat:Nat):Int):=by omega
 unfold nV;rw[e,HT.oh,HT.lu];simp only[Vr];rcases ZO r.toNat xs.length with z | z
 . rw[Xy z];exact VT (by rw[V1];omega)
 . rw[X6 z,VB (Uo _),VB z];simp
theorem sJ{xs:List V}{r:Int}(h:0<=r):nV xs none (some r)=xs.take r.toNat:=by
 have e:r=((r.toNat:Nat):Int):=by omega
 unfold nV;rw[e,HT.oh,HT.lu];simp only[Vr,aai,aa8];rcases ZO r.toNat xs.length with z | z
 . rw[Xy z]
 . rw[X6 z,VT (Uo _),VT z]
theorem T6{c A B:Prop}[Decidable c](hc: ¬ c)(h:B):if c then A else B:=by rw[if_neg hc];exact h
noncomputable def S3(k:Nat)(g:TG)(tt:TT)(te:TE)(σ :St)(Q:VK)(J:It)(H1:Hp):Prop:= ∃ W:Nat->Nat->List V->Hp->Prop,(∃ m,W 0 m [] H1)/\ ∀ i m ys H,W i m ys H ->
 (J.stop i H/\ ∀ p,H p=none->Q (.ref p) (upd H p (.lst ys))) \/
 (J.go i H/\ys.length < sizeLine/\ ∀ x H',J.Ja i H x H'->g x (σ ++Up k none) H' fun σ2 H2=>tt σ2 H2 λb H3 =>
  if b=true then te σ2 H3 λy H4=> ∃ m',m' < m/\W (i+1) m' (ys++[y]) H4 else ∃ m',m' < m/\W (i+1) m' ys H3)
theorem Mo{K:Ud}{a:Addr}{xs:List V}{k:Nat}{g:TG}{tt:TT}{te:TE}[vH g][uM tt][vv te]{σ :St}{H:Hp}{Q:VK}(Pv:Nat->List V->Hp->Prop)(h0:Pv 0 [] H)(hl: ∀ i ys H,i<=xs.length->Pv i ys H->fM K H a xs/\ys.length<=i)(hz:xs.length<=sizeLine)
  (hs: ∀ i x ys H,xs[i]?=some x->Pv i ys H->g x (σ ++Up k none) H fun σ2 H2=>tt σ2 H2 λb H3=>if b=true then te σ2 H3 λy H4=>Pv (i+1) (ys++[y]) H4 else Pv (i+1) ys H3)
  (hd: ∀ ys H,Pv xs.length ys H-> ∀ p,H p=none->Q (.ref p) (upd H p (.lst ys))):S3 k g tt te σ Q (CU K a) H:=QY Pv h0 hl hz hs hd
class SN (trs:List (TE × TE)):Prop where
 m: ∀ σ H Q Q',(∀ ps H1,Q ps H1->Q' ps H1)->mK trs σ H Q->mK trs σ H Q'
theorem Bx.SW{P:UN}{w:World}{K:Ud}{mg:Str->Option Value}{base:Heap}{x:Str}{st:Stmt}{f:Addr}{fd:V0}{N ps:List Str}{k:Nat}{sp:Sp}(F:Bx K x x st f fd)(S:d9 N ps (ax st))(len: ∀ vs H Q E,sp vs H Q E->vs.length=ps.length)
  (hbody: ∀(f:Addr)(cdv:Value)(A:U6)(outer:List Env)(s:Uj)(H:Hp)(vs:List V)(Q:VK)(E:XK),dP k (A.deeper (YG x (ax st) s.heap.objs.size f cdv))->sp vs H Q E ->
   ∃ t,CD (j5 ue P w K mg base N x (ax st) f cdv A outer s H E).qy (bq st) t/\t { nx:=λ_ H'=>Q .non H',rt:=Q } (start N vs) H):lV P w K mg base ue (k+1) f fd ps sp :=
 F.ok S len λcdv A outer s H vs Q E hr h=>let ⟨t,q,z⟩:=hbody f cdv A outer s H vs Q E hr h;⟨t,q.h,z⟩
theorem M7{K:Ud}{H:Hp}{a:Addr}{xs:List V}(o:Dg H)(h:iS K H a xs):yB K H a xs:=by
 rcases h with(h | ⟨u,h⟩) | h
 . rcases o a with z | ⟨u,ys,z⟩<;>(rw[h] at z;cases z)
 . exact .inl ⟨u,h⟩
 . exact .inr h
noncomputable def KD(P:UN)(w:World)(K:Ud)(a:Addr)(kvs:List (Key × V)):Prop:=(a == Vx)=false /\
 ∃(o:Obj)(es:Array aav)(ep:Nat)(vs:List (Key × Value)),K.lookup a=some o/\o.ExactDict/\o.data= .dict es ep/\PySem.KeysOf (aH P w) es/\Pairs (aH P w) es.toList vs/\(vs.map (·.1)).Nodup/\KV kvs vs
theorem Inv.kd{X:Cx}{pins:List (Addr × Obj)}{σ :St}{H:Hp}{s:Uj}{a:Addr}{kvs:List (Key × V)}(I:Inv X pins σ H s)(h:KD X.prog X.w X.K a kvs): ∃ vs,KV kvs vs/\s.heap.DictOf (aH X.prog X.w) a vs:=by
 obtain⟨_,o,es,ep,vs,h1,h2,h3,h4,h5,h6,h7⟩:=h;exact⟨vs,h7,o,es,ep,I.my a o h1,h2,h3,h4,h5,h6⟩
noncomputable def Im(kvs:List (Key × V))(ty:TE):TE:=fun σ H Q=>ty σ H λy H2=> ∃ k v,y=kV k/\gX kvs k=some v/\Q v H2
section
variable{X:Cx}{o i:Expr}{pos:Pos}{ty:TE}{a:Addr}{kvs:List (Key × V)}
theorem EM(hk:KD X.prog X.w X.K a kvs)(ho:PE X o (tC (.ref a)))(hi:PE X i ty)(hs:GU i):PE X (.Subscript o i pos) (Im kvs ty):=by
 intro pins s σ H Q I h;refine Gu YU.lookup hs (cL (ho pins s σ H (λx H1=>x= .ref a/\H1=H) I ⟨rfl,rfl⟩) λu s1 ⟨x,H1,I1,rx,ex,eH⟩=>?_);subst ex eH;obtain rfl:u=UJ a:=rx;refine cL (hi pins s1 σ H1 _ I1 h) λiv s2 ⟨y,H2,I2,ry,k,v,ey,l,q2⟩=>?_;subst ey;obtain⟨vs,rel,dd⟩:=I2.kd hk;obtain⟨w',hw,rw'⟩:=lN.some_of (v:=v) (o:=ZK vs k) (by rw[<- l];exact rel.val k);exact⟨dd.typeIs,wpAny_getItem_of (lE ry) dd.mapOf hw ⟨v,H2,I2.tok _,rw',q2⟩⟩
theorem HV(hk:KD X.prog X.w X.K a kvs)(ho:QE X o (tC (.ref a)))(hi:QE X i ty)(hs:GU i):QE X (.Subscript o i pos) (Im kvs ty):=⟨EM hk ho.h hi.h hs⟩
end
noncomputable def F7(w:World)(p:Str × Tok × Value):aav:={ hash:=UX w.params p.1,key:= .str p.1 p.2.1,val:=p.2.2 }
theorem QM{P:UN}{w:World}{K:Ud}{a:Addr}{ls:List (Str × Tok × Value)}{kvs:List (Key × V)}{ep:Nat}(hl:K.lookup a=some { cls:= .type "dict",data:= .dict (ls.map (F7 w)).toArray ep })(ha:(a == Vx)=false)
  (hn:(ls.map λp=>(VZ p.1:Key)).Nodup) (hk:KV kvs (ls.map λp=>((VZ p.1:Key),p.2.2))):KD P w K a kvs:=by
 refine⟨ha,_,_,ep,ls.map λp=>((VZ p.1:Key),p.2.2),hl,⟨rfl,rfl,rfl⟩,rfl,?_,?_,by rw[Ve];exact hn,hk⟩
 . intro e he;have he':e∈ls.map (F7 w):=List.mem_toArray.mp he;obtain⟨p,_,rfl⟩:=UZ.mp he';exact⟨.inr p.1,mC p.1 p.2.1,rfl⟩
 . clear hl hn hk
   show Pairs (aH P w) (ls.map (F7 w)) _
   induction ls with
   | nil=>exact .nil
   | cons p r ih=>exact .cons (mC p.1 p.2.1) rfl ih
noncomputable def Rn (x:Str):It:=⟨λi _=>i < x.cps.size,λi H v H'=>H'=H∧ ∃ c,x.cps[i]?=some c∧v= .str ⟨#[c]⟩,λi _=>i=x.cps.size⟩
theorem vg {P:UN} {w:World} {K:Ud} {tg:Expr} {ty:String} (x:Str) (t:Tok) (it:Addr) (hty:["enumerate", "zip", "dict_itemiterator", "dict_reverseitemiterator", "odict_iterator", "itertools.zip_longest", "itertools.pairwise"].contains ty=false)
  (W: ∀ A:U6,A.handled=none->Walks P w A it [it] [it] x.cps.size (SignAt x) (λi h=>h.IsStrIter it ty x t i)) (S: ∀ (A:U6) (i:Nat) (s:Uj) (Q:Value->Uj->Prop) (E:Value->Uj->Prop),s.heap.IsStrIter it ty x t i->Q (.ref it) s->wpAny (model P w) A (abg (.ref it)) Q E s) :
  Turn P w K tg (Rn x) [it] it (λi h=>h.IsStrIter it ty x t i) where
 mem:=by simp
 obj:=λi h st b hb=>by
  have e:b=it:=by simpa using hb
  subst e;obtain⟨o,e,c,d⟩:=st;exact⟨o,e,λv z=>by rw[d] at z;cases z⟩
 keep:=λi h h' st k=>let ⟨o,e,r⟩:=st;⟨o,k it (by simp) o e,r⟩
 item:=by
  intro X hP hw hK hc i pins s σ H E I hf st hg;subst hP hw hK;obtain⟨f0,f1,f2,f3,f4,f5⟩:=hf it (by simp);refine(W X.A (I.ok.hd hc)).item i s _ _ hg st λv h' tk hv st' hk=>?_;obtain⟨c,u,hx,rfl⟩:=hv;have I1:Inv X pins σ H { s with heap:=h',toks:=tk }:=I.turned (t':=tk) (λb o hb e=>hk b o (by simpa using hb) e) f0 f1 f3 f4 f5;obtain⟨o,e,cc,d⟩:=id st';exact⟨_,rfl,y6 (s:={ s with heap:=h',toks:=tk }) e cc d hty ⟨.str ⟨#[c]⟩,H,I1,⟨_,rfl⟩,⟨rfl,c,hx,rfl⟩,st',λb hb=>(hf b hb).1⟩⟩
 done:=by
  intro X hP hw hK hc i pins s σ H E I hf st hg;subst hP hw hK;obtain⟨f0,f1,f2,f3,f4,f5⟩:=hf it (by simp);have hi:i=x.cps.size:=hg;subst hi;exact(W X.A (I.ok.hd hc)).done s _ _ st λh' tk hk=>⟨rfl,I.turned (t':=tk) (λb o hb e=>hk b o (by simpa using hb) e) f0 f1 f3 f4 f5⟩
 self:=λA i s Q E st h=>S A i s Q E st h
theorem fH{x:Str}{k:Nat}{g:TG}{tt:TT}{te:TE}[vH g][uM tt][vv te]{σ :St}{H:Hp}{Q:VK}(Pv:Nat->List V->Hp->Prop)(h0:Pv 0 [] H)(hl: ∀ i ys H,i<=x.cps.size->Pv i ys H->ys.length<=i)(hz:x.cps.size<=sizeLine)
  (hs: ∀ i c ys H,x.cps[i]?=some c->Pv i ys H->g (.str ⟨#[c]⟩) (σ ++Up k none) H fun σ2 H2=>tt σ2 H2 λb H3=>if b=true then te σ2 H3 λy H4=>Pv (i+1) (ys++[y]) H4 else Pv (i+1) ys H3)
  (hd: ∀ ys H,Pv x.cps.size ys H-> ∀ p,H p=none->Q (.ref p) (upd H p (.lst ys))):S3 k g tt te σ Q (Rn x) H:=by
 refine⟨λi m ys H=>m=x.cps.size - i/\i<=x.cps.size/\Pv i ys H,⟨x.cps.size,by simp,Vd _,h0⟩,?_⟩;rintro i m ys H ⟨rfl,hi,p⟩;have hy:=hl i ys H hi p;by_cases hlt:i < x.cps.size
 . refine .inr ⟨hlt,by omega,λv H' y=>?_⟩;obtain⟨e,c,hc,rfl⟩:=y;subst e;refine vH.m (g:=g) _ _ _ _ _ (fun σ2 H2 z=>uM.m (t:=tt) _ _ _ _ (λb H3 z=>?_) z) (hs i c ys _ hc p);cases b with
   | true =>
    rw[if_pos rfl] at z ⊢
    exact vv.m (t:=te) _ _ _ _ (λv H4 w=>⟨x.cps.size - (i+1),by omega,rfl,hlt,w⟩) z
   | false =>
    rw[if_neg UG] at z ⊢
    exact⟨x.cps.size - (i+1),by omega,rfl,hlt,z⟩
 . have e:i=x.cps.size:=by omega
   subst e;exact .inl ⟨rfl,hd ys H p⟩
theorem Ff{X:Cx}{x:Str}{a:Addr}{pos:Pos}(hg:Gl X x)(hm:X.mg x=some (.ref a))(hd:(x == ("__debug__" :Str))=false:=by decide):QE X (.Name x pos) (tC (.ref a)):=⟨yK hg hm rfl hd⟩
theorem qM(l:Addr)(o:Obj)(b:Str)(u:Tok) :
  Meets (Xa.«dict.__eq__» ⟨[.ref l,.str b u],[]⟩) (λ_ R s=>s.heap.get? l=some o/\R (.ok (.ret .notImplemented)) s) :=
 .of_wp λprog w A R s h=>by
  obtain⟨hp,g,d,tk,os⟩:=s;obtain⟨hl,h⟩:=h;have f1:=aaj;wp_walk;exact⟨_,rfl,h⟩
theorem t7(b:Str)(u:Tok)(l:Addr)(c:Value)(es:Array aav)(ep:Nat)(dd:Option Addr)(sl:Array (Option Value)) :
  Meets (Xa.«str.__eq__» ⟨[.str b u,.ref l],[]⟩) (λ_ R s=>s.heap.get? l=some { cls:=c,dict:=dd,data:= .dict es ep,slots:=sl }/\R (.ok (.ret .notImplemented)) s) :=
 .of_wp λprog w A R s h=>by obtain⟨hp,g,d,tk,os⟩:=s;obtain⟨hl,h⟩:=h;wp_walk using Vf hl,WI hl;exact⟨_,rfl,h⟩
theorem vy{A:U6}{s:Uj}{l:Addr}{o:Obj}{es:Array aav}{ep:Nat}(b:Str)(u:Tok)(hl:s.heap.get? l=some o)(hx:o.ExactDict)(hd:o.data= .dict es ep)(hu:A.units < cLine):SeqAt.RcAt A s (.ref l) (.str b u) false:=λprog w E Q h=>by
 obtain⟨cls,dd,data,sl⟩:=o;have hc:cls= .type "dict" :=hx.1;simp only at hd;subst hc hd;exact SeqAt.rc_eq_decline_or (k:=false) ⟨_,hl,rfl⟩ (aaO s b u) (by decide) aaj aak Zg
  (λ_ hq=>Wb aak ⟨_,hl,rfl⟩ PySem.F.entry_dict_eq (PySem.F.args_dict_eq_2 _ _) (qM l _ b u) ⟨hl,hq⟩)
  (λ_ hq=>Wb Zg (aaO s b u) PySem.F.entry_str_eq (PySem.F.args_str_eq_2 _ _) (t7 b u l (.type "dict") es ep dd sl) ⟨hl,hq⟩)
  (λ_ z=>wpAny_of_eq (show isSame (.ref l) (.str b u)=pure false from rfl) z) (.inr hu) h
noncomputable def Pl(K:Ud):R2:=λx y H Q=> ∃ p z,x= .ref p/\y= .str z/\((∃ xs,iS K H p xs)\/(∃ xs,fM K H p xs)\/ ∃ kvs,H p=some (.dK kvs))/\Q (.bl false) H
noncomputable def Pd(K:Ud):V->Option Int->Option Int->Hp->VK->Prop:=λx lo hi H Q=> ∃ a xs,x= .ref a/\fM K H a xs/\(HT.df xs.length 0 lo=0/\HT.df xs.length xs.length hi=xs.length)/\Q (.ref a) H
noncomputable def IQ(K:Ud):R2:=λx y H Q=> ∃ a b ys,x= .ref a/\y= .ref b/\fM K H a []/\fM K H b ys/\Q (.ref b) H
noncomputable def Ij:R2:=λx y H Q=> ∃ a b,x= .str a/\y= .str b/\a.length+b.length<=sizeLine/\Q (.str (a++b)) H
theorem mZ:fillsNumberSlot (.type "tuple") "mul" =pure false :=
 PySem.fillsNumberSlot_seq (id:= "tuple.__mul__") (r:=some (.builtin "tuple.__rmul__")) Wf.lookup (by decide +kernel) Zt.lookup (by decide +kernel)
theorem sA:seqRepeat? (.type "tuple")=pure (some (.builtin "tuple.__mul__")):=by
 unfold seqRepeat?;rw[abm (T:= "tuple") (name:= "__mul__") (id:= "tuple.__mul__") Wf.lookup (by decide +kernel),abm (T:= "tuple") (name:= "__rmul__") (id:= "tuple.__rmul__") Zt.lookup (by decide +kernel)];rfl
theorem oR(a:Int)(t:Tok)(l:Addr)(items:Array Value)(n:Nat)(dd:Option Addr)(sl:Array (Option Value)) :
  Meets (Xa.«int.__rmul__» ⟨[.int a t,.ref l],[]⟩) (λ_ R s=>s.heap.get? l=some { cls:= .type "tuple",dict:=dd,data:= .seq items n,slots:=sl }/\R (.ok (.ret Value.notImplemented)) s) :=
 .of_wp λprog w A R s h=>by obtain⟨hp,g,d,tk,os⟩:=s;obtain⟨hl,h⟩:=h;wp_walk using Vf hl,WI hl;exact⟨_,rfl,h⟩
theorem qP{prog:UN}{w:World}{A:U6}{E:Value->Uj->Prop}{s:Uj}{t sl:Addr}{items:Array Value}{vl vu:Value}{lo hi:Option Int}{Q:Value->Uj->Prop}(ht:IsTup s.heap t items)(hs:s.heap.IsSliceOf sl vl vu .none)(pl:ZF vl lo)(pu:ZF vu hi)
  (hw:HT.df items.size 0 lo=0/\HT.df items.size items.size hi=items.size) (h:Q (.ref t) s):wpAny (model prog w) A (Yr (.ref t) (.ref sl)) Q E s:=by
 obtain⟨os,hos,hcs,hds⟩:=id hs;have hTs:s.TypeIs (.ref sl) "slice" :=⟨os,hos,hcs⟩
 unfold Yr
 try with_reducible refine VP ?_
 first | refine Ue (Us ?_) | skip
 refine Ue (wpAny_sequenceKey ht.typeIs (by decide) ?_);refine Ue (VN (name:=UC "__getitem__") ht.typeIs Vi
  (V2 Vi ht.typeIs aaw ?_ (aaN _ _)))
 show wpAny _ _ (YI (.ref t) >>= _) _ _ s;refine Ue (tupleItemsOf_ ht ?_);refine Ue (Xh hTs ?_);rw[if_pos (by decide)];refine Ue (HT.gZ hs pl pu ?_);show wpAny _ _ (if (((HT.df items.size 0 lo:Nat):Int) == 0&&(1:Int) == 1&&(HT.df items.size items.size hi - HT.df items.size 0 lo) == items.size)=true then _ else _) _ _ s;rw[if_pos (by rw[hw.1,hw.2];simp)];refine Ue (m:=Builtin.Tuple.tupleIsExact _) (Ue (Xh ht.typeIs (Us ?_)));rw[if_pos (by decide)];exact Ue (ZN (Us ⟨_,rfl,Us h⟩))
section
variable{X:Cx}
theorem GX(hu:X.A.units < cLine):dw X (UY .Eq) (Pl X.K):=by
 intro pins s σ H x y v u Q I rx ry h;obtain⟨p,z,rfl,rfl,hp,hQ⟩:=h;cases(show v=UJ p from rx);obtain⟨t,rfl⟩:=ry;have fin:EP X pins σ Q (.bool false) s:=⟨.bl false,H,I,rfl,hQ⟩
 rcases hp with⟨xs,hp⟩ | ⟨xs,hp⟩ | ⟨kvs,hp⟩
 . obtain⟨aj,hv,pl,hz⟩:=I.list hp;exact SeqAt.RcAt.list_str z t pl.isList hu _ _ _ _ fin
 . obtain⟨aj,hv,pl,hz⟩:=I.tuple hp;exact SeqAt.RcAt.tuple_str z t pl hu _ _ _ _ fin
 . obtain⟨_,_,vs,_,o,es,ep,e,hx,hd,_⟩:=vY I.bD hp;exact vy z t e hx hd hu _ _ _ _ fin
theorem E5:EK X (Pd X.K):=by
 intro pins s σ H x v vl vu lo hi sl Q I rx hs pl pu h;obtain⟨a,xs,rfl,hx,hw,q⟩:=h;cases rx;obtain⟨aj,r,ht,hz⟩:=I.tuple hx;have hlen:aj.toArray.size=xs.length:=by rw[Uw];exact r.length.symm
 refine⟨"tuple",_,Vi.lookup,ht.typeIs,?_⟩;exact qP ht hs pl pu (by rw[hlen];exact hw) ⟨.ref a,H,I,rfl,q⟩
theorem GS:dw X (VD .Add) (IQ X.K):=by
 intro pins s σ H x y v u Q I rx ry h;obtain⟨a,b,ys,rfl,rfl,ha,hb,q⟩:=h;cases(show v=UJ a from rx);cases(show u=UJ b from ry);obtain⟨aj,r1,p1,_⟩:=I.tuple ha;obtain⟨its2,r2,p2,_⟩:=I.tuple hb;have e1:aj=[]:=by cases r1;rfl
 subst e1;obtain⟨⟨cls,dd,data,sl⟩,ho,hc,n,hd⟩:=id p1;obtain⟨⟨cls2,dd2,data2,sl2⟩,ho2,hc2,n2,hd2⟩:=id p2;simp only at hc hd hc2 hd2;subst hc hd hc2 hd2;exact aa0 ⟨_,ho,rfl⟩ ⟨_,ho2,rfl⟩ Zo aaF XO XE (Xr _ _)
  (tuple_addW0 a b _ _ n n2 dd dd2 sl sl2 rfl) ⟨ho,ho2,⟨.ref b,H,I,rfl,q⟩⟩
theorem FQ:dw X (VD .Add) Ij:=by
 intro pins s σ H x y v u Q I rx ry h;obtain⟨a,b,rfl,rfl,hz,q⟩:=h;obtain⟨t,rfl⟩:=rx;obtain⟨t',rfl⟩:=ry;exact PyProof.Rows.add_str (λt' tk=>⟨.str (a++b),H,I.tok _,⟨_,rfl⟩,q⟩) hz
theorem Kv:dw X (VD .Add) (λx y H Q=>(EG λi j=> .int (i+j)) x y H Q\/(O6 x y H Q\/(IM X.K x y H Q\/(IQ X.K x y H Q\/Ij x y H Q)))):=J4.or (JK.or (Ic.or (GS.or FQ)))
theorem Ua:EK X (λx lo hi H Q=>PB X.K x lo hi H Q\/(Ra X.K x lo hi H Q\/Pd X.K x lo hi H Q)):=ET.or (M6.or E5)
end
noncomputable def yC{α :Type}(c:Nat->Nat->Bool):KasT α -> α
 | .ret a=>a
 | .ask i j k=>yC c (k (c i j))
noncomputable def CN{α :Type}(n:Nat)(c:Nat->Nat->Bool):KasT α ->Bool
 | .ret _=>true
 | .ask i j k=>decide (i < n)&&decide (j < n)&& !decide (i=j)&&CN n c (k (c i j))
theorem vw{α :Type}{cmp:Nat->Nat->(Bool->Uj->Prop)->Uj->Prop}{n:Nat}{c:Nat->Nat->Bool}{s:Uj}(hc: ∀ i j C,i < n->j < n->i≠j->C (c i j) s->cmp i j C s){Q: α ->Uj->Prop} :
  ∀ t:KasT α,CN n c t=true->Q (yC c t) s->t.kasWp cmp Q s
 | .ret a,_,q=>q
 | .ask i j k,h,q=>by
  simp only[CN,UD,decide_eq_true_eq,V9,decide_eq_false_iff_not] at h;exact hc i j _ h.1.1.1 h.1.1.2 h.1.2 (vw hc (k (c i j)) h.2 q)
noncomputable def gS{α :Type}(n:Nat)(c:Nat->Nat->Bool)(t:KasT α)(Q: α ->Prop):Prop:=CN n c t=true/\Q (yC c t)
theorem gS.ret{α :Type}{n:Nat}{c:Nat->Nat->Bool}{a: α}{Q: α ->Prop}(h:Q a):gS n c (.ret a) Q:=⟨rfl,h⟩
theorem gS.ask{α :Type}{n:Nat}{c:Nat->Nat->Bool}{i j:Nat}{k:Bool->KasT α}{Q: α ->Prop}(hi:i < n)(hj:j < n)(hij:i≠j)(h:gS n c (k (c i j)) Q):gS n c (.ask i j k) Q :=
 ⟨by simp only[CN,hi,hj,hij,h.1,decide_true,decide_false,Bool.not_false,Xu],h.2⟩
theorem gS.bind{α β :Type}{n:Nat}{c:Nat->Nat->Bool}{f: α ->KasT β}{Q: β ->Prop}: ∀{t:KasT α},gS n c t (λa=>gS n c (f a) Q)->gS n c (t.bind f) Q
 | .ret a,h=>h.2
 | .ask i j k,h=>by
  have e:=h.1;simp only[CN,UD,decide_eq_true_eq,V9,decide_eq_false_iff_not] at e;exact gS.ask e.1.1.1 e.1.1.2 e.1.2 (gS.bind (t:=k (c i j)) ⟨e.2,h.2⟩)
theorem gS.mono{α :Type}{n:Nat}{c:Nat->Nat->Bool}{t:KasT α}{Q Q': α ->Prop}(h:gS n c t Q)(f: ∀ a,Q a->Q' a):gS n c t Q':=⟨h.1,f _ h.2⟩
structure gC(n:Nat)(p:Array Nat):Prop where
 perm:p.toList.Perm (Vn n)
theorem gC.size{n:Nat}{p:Array Nat}(h:gC n p):p.size=n:=by simpa using h.perm.length_eq
theorem gC.lt{n:Nat}{p:Array Nat}(h:gC n p){i:Nat}(hi:i < n):p.getD i 0 < n:=by
 have hi':i < p.size:=h.size ▸ hi;have:p.getD i 0∈p.toList:=by
  rw[U5,Vj hi'];exact Array.getElem_mem_toList hi'
 exact Wm.mp (h.perm.mem_iff.mp this)
theorem gC.ne{n:Nat}{p:Array Nat}(h:gC n p){i j:Nat}(hi:i < n)(hj:j < n)(hij:i≠j):p.getD i 0≠p.getD j 0:=λe=>by
 have hi':i < p.size:=h.size ▸ hi;have hj':j < p.size:=h.size ▸ hj;have nd:p.toList.Nodup:=h.perm.nodup_iff.mpr List.nodup_range;rw[U5,U5,Vj hi',Vj hj'] at e;exact hij ((Y5 (by simpa using hi') nd).mp (by rw[W5,W5,Vj hi',Vj hj'];exact congrArg some e))
theorem gC.of{n:Nat}{p q:Array Nat}(h:gC n p)(pm:q.Perm p):gC n q:=⟨(Array.perm_iff_toList_perm.mp pm).trans h.perm⟩
theorem x9(n:Nat):gC n (List.toArray (Vn n)):=⟨abL _⟩
section
variable{n:Nat}{r:Nat->Nat}
noncomputable def rk(r:Nat->Nat)(p:Array Nat)(i:Nat):Nat:=r (p.getD i 0)
noncomputable def qC(r:Nat->Nat)(p:Array Nat)(k:Nat):Prop:= ∀ i j,i < j->j < k->rk r p i < rk r p j
noncomputable def oO(r:Nat->Nat)(p:Array Nat)(k:Nat):Prop:= ∀ i j,i < j->j < k->rk r p j < rk r p i
noncomputable def cN(r:Nat->Nat)(i j:Nat):Bool:=decide (r i < r j)
noncomputable def sR(n:Nat)(r:Nat->Nat):Prop:= ∀ i j,i < n->j < n->r i=r j->i=j
theorem Ex{p:Array Nat}(hr:sR n r)(h:gC n p){i j:Nat}(hi:i < n)(hj:j < n)(hij:i≠j):rk r p i≠rk r p j:=λe=>h.ne hi hj hij (hr _ _ (h.lt hi) (h.lt hj) e)
theorem Fm{p:Array Nat}{k:Nat}(h:qC r p k)(hk:1<=k)(x:rk r p (k - 1) < rk r p k):qC r p (k+1):=λi j hij hj=>by
 rcases Wg j k with c | c
 . exact h i j hij c
 . have:j=k:=by omega
   subst this;rcases Wg i (j - 1) with d | d
   . exact Ys (h i (j - 1) d (by omega)) x
   . have:i=j - 1:=by omega
     subst this;exact x
theorem rJ{p:Array Nat}{k:Nat}(h:oO r p k)(hk:1<=k)(x:rk r p k < rk r p (k - 1)):oO r p (k+1):=λi j hij hj=>by
 rcases Wg j k with c | c
 . exact h i j hij c
 . have:j=k:=by omega
   subst this;rcases Wg i (j - 1) with d | d
   . exact Ys x (h i (j - 1) d (by omega))
   . have:i=j - 1:=by omega
     subst this;exact x
theorem yk{p:Array Nat}(hr:sR n r)(h:gC n p): ∀(f m:Nat),1<=m->m+f<=n->qC r p m ->
  gS n (cN r) (kas_asc p f m) λm'=>m<=m'/\m'<=m+f/\qC r p m'/\(m' < m+f->rk r p m' < rk r p (m' - 1))
 | 0,m,h1,hm,u=>gS.ret ⟨Uo _,Uo _,u,λx=>absurd x (Vb _)⟩
 | f+1,m,h1,hm,u=>by
  refine gS.ask (h.lt (by omega)) (h.lt (by omega)) (h.ne (by omega) (by omega) (by omega)) ?_;have ne:=Ex hr h (i:=m) (j:=m - 1) (by omega) (by omega) (by omega);by_cases c:rk r p m < rk r p (m - 1)
  . have e:cN r (p.getD m 0) (p.getD (m - 1) 0)=true:=decide_eq_true c;rw[e,if_pos rfl];exact gS.ret ⟨Uo _,by omega,u,λ_=>c⟩
  . have e:cN r (p.getD m 0) (p.getD (m - 1) 0)=false:=decide_eq_false c;rw[e,if_neg (by simp)];refine(yk hr h f (m+1) (by omega) (by omega) (Fm u h1 (by omega))).mono λm' x=>⟨by omega,by omega,x.2.2.1,λy=>x.2.2.2 (by omega)⟩
theorem yA{p:Array Nat}(hr:sR n r)(h:gC n p): ∀(f m:Nat),1<=m->m+f<=n->oO r p m ->
  gS n (cN r) (kas_desc f p m 0) λt=>t.1=p/\t.2.2=0/\m<=t.2.1/\t.2.1<=m+f/\oO r p t.2.1
 | 0,m,h1,hm,u=>gS.ret ⟨rfl,rfl,Uo _,Uo _,u⟩
 | f+1,m,h1,hm,u=>by
  refine gS.ask (h.lt (by omega)) (h.lt (by omega)) (h.ne (by omega) (by omega) (by omega)) ?_;have ne:=Ex hr h (i:=m) (j:=m - 1) (by omega) (by omega) (by omega);by_cases c:rk r p m < rk r p (m - 1)
  . have e:cN r (p.getD m 0) (p.getD (m - 1) 0)=true:=decide_eq_true c;rw[e,if_pos rfl,if_neg (by omega)];refine(yA hr h f (m+1) (by omega) (by omega) (rJ u h1 c)).mono λt x=>⟨x.1,x.2.1,by omega,by omega,x.2.2.2.2⟩
  . have e:cN r (p.getD m 0) (p.getD (m - 1) 0)=false:=decide_eq_false c;rw[e,if_neg (by simp)];refine gS.ask (h.lt (by omega)) (h.lt (by omega)) (h.ne (by omega) (by omega) (by omega)) ?_;have e2:cN r (p.getD (m - 1) 0) (p.getD m 0)=true:=decide_eq_true (show rk r p (m - 1) < rk r p m by omega);rw[e2,if_pos rfl];exact gS.ret ⟨rfl,rfl,Uo _,Nat.le_add_right _ _,u⟩
theorem DQ{p:Array Nat}{m:Nat}(hm:m<=p.size)(k:Nat):rk r (kas_rev p 0 m) k=if k < m then rk r p (m - 1 - k) else rk r p k:=by
 unfold rk kas_rev;rw[U5,getElem?_mirror_all hm];by_cases c:k < m
 . rw[if_pos ⟨Vd _,c⟩,if_pos c,U5,Xi]
 . rw[if_neg (λx=>c x.2),if_neg c,U5]
theorem BM{p:Array Nat}(hr:sR n r)(h:gC n p){m:Nat}(h1:1<=m)(hm:m<=n)(u:oO r p m):gS n (cN r) (kas_tail3 m n p) λt=>gC n t.2/\1<=t.1/\t.1<=n/\qC r t.2 t.1:=by
 have h':gC n (kas_rev p 0 m):=h.of (mirror_perm _ _ _ _);refine gS.bind ((yk hr h' (n - m) m h1 (by omega) λi j hij hj=>?_).mono λm' x=>gS.ret ⟨h',by omega,by omega,x.2.2.1⟩);rw[DQ (by rw[h.size];exact hm),DQ (by rw[h.size];exact hm),if_pos (by omega),if_pos hj];exact u _ _ (by omega) (by omega)
theorem Cn{p:Array Nat}(hr:sR n r)(h:gC n p)(h1:1<=n):gS n (cN r) (kas_count n p) λt=>gC n t.2/\1<=t.1/\t.1<=n/\qC r t.2 t.1:=by
 refine gS.bind ((yk hr h (n - 1) 1 (Uo _) (by omega) λi j hij hj=>by omega).mono λm x=>?_);obtain⟨x1,x2,x3,x4⟩:=x;by_cases c:m=n
 . rw[if_pos (by simpa using c)];exact gS.ret ⟨h,x1,by omega,x3⟩
 . rw[if_neg (by simpa using c)];by_cases c2:m > 1
   . rw[if_pos c2];refine gS.ask (h.lt (by omega)) (h.lt (by omega)) (h.ne (by omega) (by omega) (by omega)) ?_;have e2:cN r (p.getD 0 0) (p.getD (m - 1) 0)=true:=decide_eq_true (x3 0 (m - 1) (by omega) (by omega));rw[e2,if_pos rfl];exact gS.ret ⟨h,x1,by omega,x3⟩
   . rw[if_neg c2];have:m=1:=by omega
     subst this;refine gS.bind ((yA hr h (n - (1+1)) (1+1) (by omega) (by omega) (rJ (λi j hij hj=>by omega) (Uo _) (x4 (by omega)))).mono λt y=>?_);obtain⟨y1,y2,y3,y4,y5⟩:=y;rw[if_neg (by omega),y1];exact BM hr h (by omega) (by omega) y5
theorem qo{p:Array Nat}(hr:sR n r)(h:gC n p){k:Nat}(hk:k < n)(u:qC r p k): ∀(f l m:Nat),l<=m->m<=k->m - l<=f->(∀ i,i < l->rk r p i < rk r p k)->(∀ i,m<=i->i < k->rk r p k < rk r p i) ->
  gS n (cN r) (kas_place p k f l m) λt=>t<=k/\(∀ i,i < t->rk r p i < rk r p k)/\(∀ i,t<=i->i < k->rk r p k < rk r p i)
 | 0,l,m,h1,h2,h3,a,b=>gS.ret ⟨by omega,a,λi hi hik=>b i (by omega) hik⟩
 | f+1,l,m,h1,h2,h3,a,b=>by
  unfold kas_place;by_cases c:l ≥ m
  . rw[if_pos c];exact gS.ret ⟨by omega,a,λi hi hik=>b i (by omega) hik⟩
  . rw[if_neg c];refine gS.ask (h.lt (by omega)) (h.lt (by omega)) (h.ne (by omega) (by omega) (by omega)) ?_;have ne:=Ex hr h (i:=k) (j:=(l+m) / 2) (by omega) (by omega) (by omega);by_cases d:rk r p k < rk r p ((l+m) / 2)
    . have e:cN r (p.getD k 0) (p.getD ((l+m) / 2) 0)=true:=decide_eq_true d;rw[e,if_pos rfl];refine qo hr h hk u f l ((l+m) / 2) (by omega) (by omega) (by omega) a λi hi hik=>?_;rcases Wg ((l+m) / 2) i with z | z
      . exact Ys d (u _ _ z hik)
      . have:i=(l+m) / 2:=by omega
        rw[this];exact d
    . have e:cN r (p.getD k 0) (p.getD ((l+m) / 2) 0)=false:=decide_eq_false d;rw[e,if_neg (by simp)];refine qo hr h hk u f ((l+m) / 2+1) m (by omega) (by omega) (by omega) (λi hi=>?_) b;have d':rk r p ((l+m) / 2) < rk r p k:=by omega
      rcases Wg i ((l+m) / 2) with z | z
      . exact Ys (u _ _ z (by omega)) d'
      . have:i=(l+m) / 2:=by omega
        rw[this];exact d'
theorem rO{p:Array Nat}{k d:Nat}(hk:k < p.size)(hd:d<=k)(i:Nat):rk r (bubble p k d) i=if i=k - d then rk r p k else if k - d < i/\i<=k then rk r p (i - 1) else rk r p i:=by
 have g: ∀(q:Array Nat)(j:Nat),rk r q j=r (q[j]?.getD 0):=λq j=>by unfold rk;rw[U5]
 rw[g,g,g,g,getElem?_bubble hk d hd]
 repeat' split
 all_goals rfl
theorem Cg(hr:sR n r): ∀(f:Nat)(p:Array Nat)(k:Nat),gC n p->k+f=n->qC r p k->gS n (cN r) (kas_bin f p k) λq=>gC n q/\qC r q n
 | 0,p,k,h,e,u=>gS.ret ⟨h,(show k=n from e) ▸ u⟩
 | f+1,p,k,h,e,u=>by
  refine gS.bind ((qo hr h (by omega) u k 0 k (by omega) (by omega) (by omega) (λi hi=>by omega) (λi h1 h2=>by omega)).mono λl x=>?_);obtain⟨x1,x2,x3⟩:=x;refine Cg hr f _ (k+1) (h.of (bubble_perm _ _ _)) (by omega) λi j hij hj=>?_;have hs:k < p.size:=by rw[h.size];omega
  rw[rO hs (by omega),rO hs (by omega)]
  repeat' split
  all_goals first | (exfalso;omega) | exact u _ _ (by omega) (by omega) | exact x2 _ (by omega) | exact x3 _ (by omega) (by omega)
theorem Fp(hr:sR n r)(h1:1<=n):gS n (cN r) (W0 n) λq=>gC n q/\qC r q n:=by
 refine gS.bind ((Cn hr (x9 n) h1).mono λt x=>?_);obtain⟨x1,x2,x3,x4⟩:=x;by_cases c:t.1 < n
 . rw[if_pos c];have:max t.1 1=t.1:=by omega
   rw[this];exact Cg hr _ _ _ x1 (by omega) x4
 . rw[if_neg c];have:t.1=n:=by omega
   exact gS.ret ⟨x1,this ▸ x4⟩
end
theorem vC{α :Type}{n:Nat}{c c':Nat->Nat->Bool}(h: ∀ i j,i < n->j < n->c i j=c' i j): ∀ t:KasT α,CN n c' t=true->CN n c t=true/\yC c t=yC c' t
 | .ret a,_=>⟨rfl,rfl⟩
 | .ask i j k,e=>by
  simp only[CN,UD,decide_eq_true_eq,V9,decide_eq_false_iff_not] at e;have hc:=h i j e.1.1.1 e.1.1.2;have:=vC h (k (c' i j)) e.2;simp only[CN,yC,UD,decide_eq_true_eq,V9,decide_eq_false_iff_not];rw[hc];exact⟨⟨e.1,this.1⟩,this.2⟩
noncomputable def iT(a b:Str):Prop:=a.cps.toList < b.cps.toList
instance (a b:Str):Decidable (iT a b):=inferInstanceAs (Decidable (a.cps.toList < b.cps.toList))
theorem kq(a:Str): ¬ iT a a:=List.lt_irrefl _
theorem jK{a b c:Str}(h1:iT a b)(h2:iT b c):iT a c:=List.lt_trans h1 h2
theorem jS{a b:Str}(h:iT a b): ¬ iT b a:=λz=>kq a (jK h z)
theorem Ha{a b:Str}(h:a.cps.toList=b.cps.toList):a=b:=by
 cases a;cases b;simp only at h;rw[abn.mp h]
theorem mP{a b:Str}(h:a≠b):iT a b\/iT b a:=by
 by_cases h1:iT a b
 . exact .inl h1
 . by_cases h2:iT b a
   . exact .inr h2
   . exact absurd (Ha (List.le_antisymm (List.not_lt.mp h2) (List.not_lt.mp h1))) h
noncomputable def lg(xs:List Str)(x:Str):Nat:=(xs.filter λy=>decide (iT y x)).length
theorem r9{xs:List Str}{x y:Str}(hx:x∈xs)(h:iT x y):lg xs x < lg xs y:=by
 unfold lg;have sub: ∀ l:List Str,(l.filter λz=>decide (iT z x)).length<=(l.filter λz=>decide (iT z y)).length:=λl=>by
  induction l with
  | nil=>exact Uo _
  | cons z r ih =>
   by_cases h1:iT z x
   . rw[U0 (by simpa using h1),U0 (by simpa using jK h1 h)];simpa using ih
   . rw[Va (by simpa using h1)];by_cases h2:iT z y
     . rw[U0 (by simpa using h2)];exact WE ih
     . rw[Va (by simpa using h2)];exact ih
 induction xs with
 | nil=>cases hx
 | cons z r ih =>
  rcases Uy.mp hx with rfl | hr
  . rw[Va (by simpa using kq x),U0 (by simpa using h)];exact aa3 (sub r)
  . by_cases h1:iT z x
    . rw[U0 (by simpa using h1),U0 (by simpa using jK h1 h)];simpa using ih hr
    . rw[Va (by simpa using h1)];by_cases h2:iT z y
      . rw[U0 (by simpa using h2)];exact W8 (ih hr)
      . rw[Va (by simpa using h2)];exact ih hr
theorem C6{xs:List Str}{x y:Str}(hx:x∈xs)(hy:y∈xs):lg xs x < lg xs y↔iT x y:=by
 refine⟨λh=>?_,r9 hx⟩;by_cases e:x=y
 . subst e;exact absurd h (Vb _)
 . rcases mP e with z | z
   . exact z
   . exact absurd (r9 hy z) (Nat.lt_asymm h)
noncomputable def cS(xs:List Str)(i j:Nat):Bool:=decide (iT (xs.getD i "") (xs.getD j ""))
theorem getD_mem{xs:List Str}{i:Nat}(h:i < xs.length):xs.getD i "" ∈xs:=by
 rw[Vp,Ur h];exact VC h
theorem vV{xs:List Str}(h1:1<=xs.length)(nd:xs.Nodup) :
  CN xs.length (cS xs) (W0 xs.length)=true/\(yC (cS xs) (W0 xs.length)).toList.Perm (Vn xs.length)/\((yC (cS xs) (W0 xs.length)).toList.map λi=>xs.getD i "").Pairwise iT:=by
 have rkI: ∀ i j,i < xs.length->j < xs.length->(lg xs (xs.getD i "") < lg xs (xs.getD j "")↔iT (xs.getD i "") (xs.getD j "")):=λi j hi hj=>C6 (getD_mem hi) (getD_mem hj);have hr:sR xs.length λi=>lg xs (xs.getD i ""):=λi j hi hj e=>by
  have a:=rkI i j hi hj;have b:=rkI j i hj hi;have e':xs.getD i "" =xs.getD j "" :=YV λne=>by
   rcases mP ne with z | z
   . have:=a.mpr z;simp only at e;omega
   . have:=b.mpr z;simp only at e;omega
  rw[Vp,Vp,Ur hi,Ur hj] at e';exact(Y5 hi nd).mp (by rw[Ur hi,Ur hj];exact congrArg some e')
 have ok:=Fp hr h1;have al: ∀ i j,i < xs.length->j < xs.length->cS xs i j=cN (λi=>lg xs (xs.getD i "")) i j:=λi j hi hj=>by
  unfold cS cN;rw[decide_eq_decide];exact(rkI i j hi hj).symm
 have ea:=vC al (W0 xs.length) ok.1;rw[ea.2];have sh:=ok.2.1;refine⟨ea.1,sh.perm,?_⟩;rw[WG,List.pairwise_iff_getElem];intro i j hi hj hij;have hj':j < xs.length:=by rw[<- sh.size];simpa using hj
 have:=ok.2.2 i j hij hj';unfold rk at this;have:=(rkI _ _ (sh.lt (by omega)) (sh.lt hj')).mp this;rw[U5,U5,Vj (by simpa using hi),Vj (by simpa using hj)] at this;simpa using this
section
variable{prog:UN}{w:World}{A:U6}{E:Value->Uj->Prop}{s:Uj}
noncomputable def dC(h:Heap)(a:Addr)(vs:List Value):Heap:=((h.update a (Wo λ_=>(#[]:Array Value))).push (WU "tuple" vs.toArray 0)).push (WU "list" #[] 0)
theorem p8{h:Heap}{a b:Addr}{vs:List Value}(hb:b < h.objs.size):(dC h a vs).get? b=(h.update a (Wo λ_=>(#[]:Array Value))).get? b :=
 (XS _ _ _ (UK (YJ (W8 hb) ((size_push' _ _).trans (congrArg (· +1) (Zu _ _ _))).symm))).trans
  (XS _ _ _ (UK (YJ hb (Zu _ _ _).symm)))
theorem vE{h:Heap}{a b:Addr}{vs:List Value}{o:Obj}(hb:b≠a)(e:h.get? b=some o):(dC h a vs).get? b=some o :=
 (p8 (Ux e)).trans ((aax _ _ _ _ hb).trans e)
theorem mn{vs:List Value}(h:vs.length < 64):vs.length<=sizeLine:=UO (WC h) (by decide)
theorem qS{a:Addr}{vs:List Value}{n:Nat}{P:PySem.Fin->Uj->Prop}{κ :aa9}{G:Array Nat->Prop}(ho:s.heap.get? a=some (WU "list" vs.toArray n))(h64:vs.length < 64)
  (hk:2<=vs.length-> ∀ Q':aa9->Uj->Prop,Q' κ { s with heap:=dC s.heap a vs }->wpAny (model prog w) A (keyKind' vs.toArray) Q' E { s with heap:=dC s.heap a vs })
  (ha:2<=vs.length-> ∀ Q':Array Nat->Uj->Prop,(∀ p,G p->Q' p { s with heap:=dC s.heap a vs })->(W0 vs.length).kasWp (kas_ask prog w A κ vs) Q' { s with heap:=dC s.heap a vs })
  (h0:vs.length < 2->P (.done (.ret .none)) { s with heap:=ZM s.heap a vs vs.toArray })
  (h: ∀ p:Array Nat,p.size=vs.length->G p->P (.done (.ret .none)) { s with heap:=ZM s.heap a vs (p.toList.map λi=>vs.getD i Wl).toArray }):wpAny (model prog w) A (Xa.«list.sort» ⟨[.ref a],[]⟩) P E s:=by
 obtain⟨ep,g1⟩: ∃ k,(s.heap.update a (Wo λ_=>(#[]:Array Value))).get? a=some (WU "list" #[] k):=⟨_,get?_update_seq ho λ_=> #[]⟩
 have g2:(dC s.heap a vs).get? a=some (WU "list" #[] ep):=(p8 (Ux ho)).trans g1;have z:=Uw (as:=vs);rw[list_sort_plain];refine Ue (aba ho rfl (Ue (Zh ho rfl (Ue (abz g1 rfl (Ue (wpAny_newTuple (Ue (X9 (VP ?_) (Vd _))) (mn h64))))) (z ▸ mn h64) (Vd _))));show wpAny (model prog w) A _ P E { s with heap:=dC s.heap a vs };dsimp only;have last: ∀ out:Array Value,out.size<=sizeLine->P (.done (.ret .none)) { s with heap:=ZM s.heap a vs out }->P (.done (.ret .none)) { s with heap:=(dC s.heap a vs).update a (Wo λ_=>out) }:=λ_ _ q=>q;rcases Wg vs.toArray.size 2 with c | c
 . rw[if_pos c,if_pos c];have e:(arrOf (SortSt.mk' general' (vs.toArray.zip vs.toArray) #[] 7 none)).map (·.2)=vs.toArray:=by
    apply abn.mp;show((vs.toArray.zip vs.toArray).map (·.2)).toList=_
    rw[Array.toList_map,Array.toList_zip];exact List.map_snd_zip (Uo _)
   refine Ue (m:=pure general') (Us ?_);rw[StateT.run_pure];refine Ue (Us (Ue (abz g2 rfl (Ue (Zh g2 rfl ?_ (Vd _) (hsz2:=by rw[e,z];exact WE (mn h64)))))));rw[if_neg (by simp)];refine Us ?_;rw[e];exact last _ (by rw[z];exact mn h64) (h0 (z ▸ c))
 . rw[if_neg (aaT.mpr c),if_neg (aaT.mpr c)];have c':2<=vs.length:=z ▸ c;have run:=kat_run (E:=E) (ks:=vs) (vs:=vs) (Q:=λst u=>u={ s with heap:=dC s.heap a vs }/\ ∃ p:Array Nat,p.size=vs.length/\arrOf st=p.map (kas_item (vs.toArray.zip vs.toArray))/\failedOf st=none/\G p)
    (G:=λp u=>u={ s with heap:=dC s.heap a vs }/\G p) rfl c' h64 (λp st u b1 b2 b3 b4=>⟨b4.1,p,b1,b2,b3,b4.2⟩) (ha c' _ λp g=>⟨rfl,g⟩)
   refine Ue (hk c' _ (Ue (U8 run (λr u x=>?_) λ_ _ x=>x)));obtain⟨⟨⟩,st⟩:=r;obtain⟨rfl,p,hp,har,hf,g⟩:=x;have el:(List.toArray (p.toList.map λi=>vs.getD i Wl)).size<=sizeLine:=by rw[Uw,Ui,VX,hp];exact mn h64
   dsimp only;rw[kat_snds rfl har,hf];refine Ue (abz g2 rfl (Ue (Zh g2 rfl ?_ (Vd _) (WE el))));rw[if_neg (by simp)];exact Us (last _ el (h p hp g))
abbrev lC(h:Heap)(vs:List Value):Heap:=((h.push (WU "list" #[] 0)).update h.objs.size (Wo (· ++vs.toArray))).push (WU "list" vs.toArray 0)
theorem fL(h:Heap)(vs:List Value):((h.push (WU "list" #[] 0)).update h.objs.size (Wo (· ++vs.toArray))).objs.size=h.objs.size+1:=(Zu _ _ _).trans (size_push' _ _)
theorem jb(h:Heap)(vs:List Value):(lC h vs).get? (h.objs.size+1)=some (WU "list" vs.toArray 0):=(fL h vs) ▸ UB _ rfl
theorem wk{h:Heap}{vs:List Value}{b:Addr}{o:Obj}(e:h.get? b=some o):(lC h vs).get? b=some o:=by
 have l:=Ux e;have z:=fL h vs;exact(XS _ _ _ (UK (YJ (W8 l) z.symm))).trans ((aax _ _ _ _ (UK l)).trans ((XS _ _ _ (UK l)).trans e))
theorem xT{l:Addr}{vs:List Value}{Q:Value->Uj->Prop}{κ :aa9}{G:Array Nat->Prop}(hl:s.heap.IsList l vs.toArray)(h64:vs.length < 64)
  (hk: ∀ h':Heap,(∀ b o,s.heap.get? b=some o->h'.get? b=some o)->2<=vs.length-> ∀ Q':aa9->Uj->Prop,Q' κ { s with heap:=h' }->wpAny (model prog w) A.in1.in1 (keyKind' vs.toArray) Q' E { s with heap:=h' })
  (ha: ∀ h':Heap,(∀ b o,s.heap.get? b=some o->h'.get? b=some o)->2<=vs.length-> ∀ Q':Array Nat->Uj->Prop,(∀ p,G p->Q' p { s with heap:=h' })->(W0 vs.length).kasWp (kas_ask prog w A.in1.in1 κ vs) Q' { s with heap:=h' })
  (h0:vs.length < 2->Q (.ref (s.heap.objs.size+1)) { s with heap:=abo s.heap vs vs.toArray })
  (h: ∀ p:Array Nat,p.size=vs.length->G p->Q (.ref (s.heap.objs.size+1)) { s with heap:=abo s.heap vs (p.toList.map λi=>vs.getD i Wl).toArray }):wpAny (model prog w) A (call (.builtin "sorted") [.ref l]) Q E s:=by
 have kp: ∀ b o,s.heap.get? b=some o->(dC (lC s.heap vs) (s.heap.objs.size+1) vs).get? b=some o:=λb o e=>vE (UK (W8 (Ux e))) (wk e);refine Xk aby aa4 aa5 (aa6 (.ref l)) ?_;unfold Xa.«sorted»;refine Ue (m:=checkCount "sorted" 1 1 [UJ l].length) (Us (Ue (collect_list hl (Ue (X9 ?_ (mn h64))) (mn h64))));show wpAny _ _ _ _ _ { s with heap:=lC s.heap vs };rw [fL];refine Ue (VP (V2 Z9 ⟨_,jb s.heap vs,rfl⟩ ZY (qS (G:=G) (κ := κ) (jb s.heap vs) h64 (hk _ kp) (ha _ kp) (λc=>⟨_,rfl,?_⟩) λp hp g=>⟨_,rfl,?_⟩) (aaa (.ref (s.heap.objs.size+1)))))
 . exact Us ⟨_,rfl,h0 c⟩
 . exact Us ⟨_,rfl,h p hp g⟩
end
noncomputable def pD(H:Hp)(y:V)(q:Str × Int):Prop:= ∃ b,y= .ref b/\H b=some (.tup [.str q.1,.int q.2])
theorem pD.v{H:Hp}{y:V}{q:Str × Int}(h:pD H y q):rG H y (.inr q.1,.int q.2):=h
noncomputable def FT(h:Heap)(v:Value)(q:Str × Int):Prop:= ∃ b o k t u,v= .ref b/\h.get? b=some o/\o.cls= .type "tuple" /\o.data= .seq #[.str q.1 t,.int q.2 u] k
theorem FT.kept{h h':Heap}{v:Value}{q:Str × Int}(k: ∀ b o,h.get? b=some o->h'.get? b=some o)(x:FT h v q):FT h' v q:=let ⟨b,o,n,t,u,e1,e2,e3,e4⟩:=x;⟨b,o,n,t,u,e1,k _ _ e2,e3,e4⟩
theorem vT{P:UN}{w:World}{H:Hp}{h:Heap}(ok:ka P w H h): ∀{ys:List V}{ps:List (Str × Int)}{aj:List Value},Vt (pD H) ys ps->Vals ys aj->Vt (FT h) aj ps
 | _,_,_,.nil,.nil=> .nil
 | _,_,_,.cons hp hr,.cons hv hrv=>by
  obtain⟨b,rfl,hb⟩:=hp;obtain⟨_,its0,r0,o,e1,e2,n,e3,_⟩:=(show ba P w H h b (.tup [.str _,.int _]) from ok b _ hb)
  obtain⟨u1,u2,rfl,⟨t1,rfl⟩,⟨t2,rfl⟩⟩:=vals2 r0;cases(show _=UJ b from hv);exact .cons ⟨b,o,n,t1,t2,rfl,e1,e2,e3⟩ (vT ok hr hrv)
theorem ur{h:Heap}: ∀{vs:List Value}{ps:List (Str × Int)},Vt (FT h) vs ps-> ∀{i:Nat},i < vs.length-> ∃ q,ps[i]?=some q/\FT h (vs.getD i Wl) q
 | _,_,.nil,i,hi=>absurd hi (Ym _)
 | _,_,.cons hp hr,0,_=>⟨_,rfl,hp⟩
 | _,_,.cons hp hr,i+1,hi=>by
  obtain ⟨q,e,a⟩:=ur hr (i:=i) (by simpa using hi);exact ⟨q,by simpa using e,by simpa using a⟩
theorem vh {h : Heap} : ∀ {vs : List Value} {ps : List (Str × Int)}, Vt (FT h) vs ps -> ∃ fs, KatTups h vs fs /\ fs.length = vs.length /\ ∀ v ∈ fs, ∃ x t, v = X0 x t
  | _, _, .nil => ⟨[], .nil, rfl, λv m => nomatch m⟩
  | _, _, .cons hp hr => by
    obtain ⟨fs, k, l, st⟩ := vh hr;obtain ⟨b, o, n, t, u, rfl, e1, e2, e3⟩ := hp
    exact ⟨_, .cons e1 e2 e3 rfl k, by simp [l], fun v m => by rcases List.mem_cons.mp m with rfl | m; · exact ⟨_, _, rfl⟩
                                                               . exact st v m⟩
section
variable {prog:UN} {w:World} {A:U6} {E:Value->Uj->Prop} {s:Uj}
theorem Aa{vs:List Value}{ps:List (Str × Int)}(hp:Vt (FT s.heap) vs ps)(nd:(ps.map (·.1)).Nodup){i j:Nat}{C:Bool->Uj->Prop}(hi:i < vs.length)(hj:j < vs.length)(hij:i≠j)(h:C (cS (ps.map (·.1)) i j) s):kas_ask prog w A (tuples' true) vs i j C s:=by
 obtain⟨q1,f1,b1,o1,n1,t1,u1,e1,g1,c1,d1⟩:=ur hp hi;obtain⟨q2,f2,b2,o2,n2,t2,u2,e2,g2,c2,d2⟩:=ur hp hj;have hne:q1.1≠q2.1:=λz=>hij ((Y5 (by rw[Ui];exact(Uh.mp f1).1) nd).mp (by rw[UA,UA,f1,f2];simp[z]));unfold kas_ask;rw[e1,e2];refine kat_lt g1 d1 g2 d2 (aaP q1.1 t1 q2.1 t2 _ _ _ _ ?_);refine T6 (by simpa using hne) ?_;refine oneLt_str ?_;have e:cS (ps.map (·.1)) i j=decide (q1.1.cps.toList < q2.1.cps.toList):=by
  unfold cS;rw[Vp,Vp,UA,UA,f1,f2];rfl
 rw[e] at h;exact h
theorem xv{vs:List Value}{ps:List (Str × Int)}(hp:Vt (FT s.heap) vs ps)(h2:2<=vs.length){Q':aa9->Uj->Prop}(q:Q' (tuples' true) s):wpAny (model prog w) A (keyKind' vs.toArray) Q' E s:=by
 obtain⟨fs,k,l,st⟩:=vh hp;refine kat_kind (T:= .type "str") k (by omega) (λv m=>?_) (by decide) q;obtain⟨x,t,rfl⟩:=st v m;exact Looks.now
end
theorem qg{α β :Type}{R: α -> β ->Prop}: ∀{xs:List α}{zs:List β},Vt R xs zs-> ∀{i:Nat}(d: α)(e: β),i < xs.length->R (xs.getD i d) (zs.getD i e)
 | _,_,.nil,i,_,_,hi=>absurd hi (Ym _)
 | _,_,.cons hp hr,0,_,_,_=>hp
 | _,_,.cons hp hr,i+1,d,e,hi=>by simpa using qg hr (i:=i) d e (by simpa using hi)
theorem nE{α β :Type}{R: α -> β ->Prop}{xs:List α}{zs:List β}(hp:Vt R xs zs)(d: α)(e: β): ∀{is:List Nat},(∀ i∈is,i < xs.length)->Vt R (is.map λi=>xs.getD i d) (is.map λi=>zs.getD i e)
 | [],_=> .nil
 | i::r,hi=> .cons (qg hp d e (hi i Uv)) (nE hp d e λj m=>hi j (Uz _ m))
theorem uV: ∀{xs:List V}{us:List Value},Vals xs us-> ∀{i:Nat},i < xs.length->RelV (xs.getD i .non) (us.getD i .none)
 | _,_,.nil,i,hi=>absurd hi (Ym _)
 | _,_,.cons hp hr,0,_=>hp
 | _,_,.cons hp hr,i+1,hi=>by simpa using uV hr (i:=i) (by simpa using hi)
theorem sf{xs:List V}{us:List Value}(h:Vals xs us): ∀{is:List Nat},(∀ i∈is,i < xs.length)->Vals (is.map λi=>xs.getD i .non) (is.map λi=>us.getD i .none)
 | [],_=> .nil
 | i::r,hi=> .cons (uV h (hi i Uv)) (sf h λj m=>hi j (Uz _ m))
theorem AJ{α :Type}(l:List α)(d: α):(Vn l.length).map (λi=>l.getD i d)=l:=by
 refine Y6 λi=>?_;rw[UA];by_cases h:i < l.length
 . rw[aay h,Ur h];simp[h]
 . rw[Wv (by rw[WH];omega),Wv (by omega)];rfl
noncomputable def wF(K:Ud):List V->Hp->VK->Prop:=λxs H Q=> ∃(p:Addr)(ys:List V)(ps:List (Str × Int)),xs=[.ref p]/\iS K H p ys/\Vt (pD H) ys ps/\ps.length < 64/\(ps.map (·.1)).Nodup /\
 ∀ l ys' ps',H l=none->ps'.Perm ps->(ps'.map (·.1)).Pairwise iT->Vt (pD H) ys' ps'->Q (.ref l) (upd H l (.lst ys'))
section
variable{X:Cx}
theorem tK:aV X (.builtin "sorted") (wF X.K):=by
 intro pins s σ H xs us Q I r h;obtain⟨p,ys,ps,rfl,hS,hP,h5,nd,q⟩:=h;obtain⟨u,rfl,ru⟩:=vals1 r;cases(show u=UJ p from ru);obtain⟨aj,hv,hl,hz⟩:=I.list hS;have hat:=vT I.bD hP hv;have hlen:=hv.length;have hpl:=Xp hP;have fs0:=vV (xs:=ps.map (·.1))
 rw[Ui] at fs0;have el:aj.length=ps.length:=by omega
 have fin: ∀(out:List Value)(ys':List V)(ps':List (Str × Int)),ys'.length=ps.length->Vals ys' out->ps'.Perm ps->(ps'.map (·.1)).Pairwise iT->Vt (pD H) ys' ps'->EP X pins σ Q (.ref (s.heap.objs.size+1)) { s with heap:=abo s.heap aj out.toArray }:=λout ys' ps' hl' hv' pm pw pp=>by
  obtain⟨e,he⟩:=aa7 s.heap aj out.toArray;obtain⟨hn,I'⟩:=I.mJ (a:=s.heap.objs.size+1) (o:= .lst ys') (t':=s.toks) (λb o e=>aaG e) (V6 (Y0 _)) ⟨by rw[hl'];exact UO (WC h5) (by decide),out,e,hv',by simpa [WU] using he⟩;exact⟨.ref _,_,I',rfl,q _ ys' ps' hn pm pw pp⟩
 refine xT (κ :=tuples' true) (G:=λp=>2<=aj.length/\p=yC (cS (ps.map (·.1))) (W0 ps.length)) hl.isList (by omega)
  (λh' k h2 Q' hq=>xv (s:={ s with heap:=h' }) (Paired.Be hat λv q x=>x.kept k) h2 hq)
  (λh' k h2 Q' hq=>vw (n:=aj.length) (c:=cS (ps.map (·.1))) (λi j C hi hj hij hc=>Aa (s:={ s with heap:=h' }) (Paired.Be hat λv q x=>x.kept k) nd hi hj hij hc) _ (by rw[el];exact(fs0 (by omega) nd).1) (hq _ ⟨h2,by rw[el]⟩))
  (λh2=>?_) λpp hpp g=>?_
 . refine fin aj ys ps (by omega) hv (abL _) ?_ hP;cases ps with
   | nil=>exact .nil
   | cons x r=>cases r with
    | nil=>exact Zv _ _
    | cons y r'=>simp at el;omega
 . obtain⟨g2,g⟩:=g;have fs:=fs0 (by omega) nd;subst g;have lt: ∀ i∈(yC (cS (ps.map (·.1))) (W0 ps.length)).toList,i < ps.length:=λi hi=>Wm.mp (fs.2.1.mem_iff.mp hi)
   refine fin _ ((yC (cS (ps.map (·.1))) (W0 ps.length)).toList.map λi=>ys.getD i .non) ((yC (cS (ps.map (·.1))) (W0 ps.length)).toList.map λi=>ps.getD i ("",0)) ?_ (sf hv λi hi=>by have:=lt i hi;omega) ?_ ?_ (nE hP _ _ λi hi=>by have:=lt i hi;omega)
   . rw[Ui,VX,hpp,el]
   . have:=fs.2.1.map (λi=>ps.getD i ("",0));rw[AJ] at this;exact this
   . have e:(((yC (cS (ps.map (·.1))) (W0 ps.length)).toList.map λi=>ps.getD i ("",0)).map (·.1))=(yC (cS (ps.map (·.1))) (W0 ps.length)).toList.map λi=>(ps.map (·.1)).getD i ("" :Str):=by
      rw[Ve];refine WL λi hi=>?_;show(ps.getD i ("",0)).1=_;rw[Vp,Vp,UA,Ur (lt i hi)];rfl
     rw[e];exact fs.2.2
theorem uW(hc:X.calm=true):aV X (.builtin "sorted") (λxs H Q=>Dp X.K xs H Q\/(BV xs H Q\/wF X.K xs H Q)):=m8.or ((ni hc).or tK)
end
noncomputable def IA(K:Ud):List V->Hp->VK->Prop:=λxs H Q=> ∃ x p Ts T b,xs=[x,.ref p]/\H p=some (.tup (Zw V.ty Ts))/\jW K H x (.type T)/\aal K (.type T) (Zw Xz Ts)=some b/\Q (.bl b) H
theorem ze: ∀{Ts:List String}{us:List Value},Vals (Ts.map V.ty) us->us=Ts.map Xz
 | [],_,.nil=>rfl
 | T::r,u::us,.cons h t=>by rw[ze t,show u=Xz T from h];rfl
section
variable{X:Cx}
theorem t6:aV X (.builtin "isinstance") (IA X.K):=by
 intro pins s σ H xs us Q I r h;obtain⟨x,p,Ts,T,b,rfl,hp,ty,e,q⟩:=h;obtain⟨u,c,rfl,ru,rc⟩:=vals2 r;cases(show c=UJ p from rc);obtain⟨_,aj,hv,⟨oc,dd,dat,sl⟩,e1,e2,n,e3,_⟩:=(show ba X.prog X.w H s.heap p (.tup (Ts.map V.ty)) from I.bD p _ hp)
 simp only at e2 e3;subst e2 e3;obtain rfl:=ze hv;have fin: ∀ tk,EP X pins σ Q (.bool b) { s with toks:=tk }:=λtk=>⟨.bl b,H,I.tok tk,rfl,q⟩
 generalize hT:Xz T=t at ty e;cases ty with
 | non=>cases(show u=Wl from ru);exact Yu kitx_none I.my trivial e1 e nofun fin
 | bl y=>cases(show u=YC y from ru);exact Yu kitx_bool I.my trivial e1 e nofun fin
 | int i=>obtain⟨_,rfl⟩:=(show ∃ t,u=Xf i t from ru);exact Yu kitx_int I.my trivial e1 e nofun fin
 | str y=>obtain⟨_,rfl⟩:=(show ∃ t,u=X0 y t from ru);exact Yu kitx_str I.my trivial e1 e nofun fin
 | flt y=>obtain⟨_,rfl⟩:=(show ∃ t,u=abt y t from ru);exact Yu abH I.my trivial e1 e nofun fin
 | @lst a xs ea =>
  cases(show u=UJ a from ru)
  obtain⟨_,_,_,_,g⟩:=(show ba X.prog X.w H s.heap a (.lst xs) from I.bD a _ ea)
  exact Yu Za I.my ⟨_,g,rfl⟩ e1 e nofun fin
 | @kI a ob xs ea =>
  cases(show u=UJ a from ru)
  obtain⟨_,_,_,_,_,g⟩:=(show ba X.prog X.w H s.heap a (.kI ob (.lst xs)) from I.bD a _ ea)
  exact Yu Za I.my ⟨_,g,rfl⟩ e1 e nofun fin
 | @tup a xs ea =>
  cases(show u=UJ a from ru)
  obtain⟨_,_,_,o,g1,g2,_⟩:=(show ba X.prog X.w H s.heap a (.tup xs) from I.bD a _ ea)
  exact Yu abI I.my ⟨o,g1,g2⟩ e1 e nofun fin
 | @dK a kvs ea =>
  cases(show u=UJ a from ru)
  obtain⟨_,_,_,_,o,_,_,g1,g2,_⟩:=(show ba X.prog X.w H s.heap a (.dK kvs) from I.bD a _ ea)
  exact Yu Zb I.my ⟨o,g1,g2.1⟩ e1 e nofun fin
 | @dT a kvs ea =>
  cases(show u=UJ a from ru)
  obtain⟨_,_,_,_,o,_,_,g1,g2,_⟩:=(show ba X.prog X.w H s.heap a (.dT kvs) from I.bD a _ ea)
  exact Yu Zb I.my ⟨o,g1,g2.1⟩ e1 e nofun fin
 | ins=>cases hT
theorem C7:aV X (.builtin "isinstance") (λxs H Q=>Q1 X.K xs H Q\/IA X.K xs H Q):=Fz.or t6
end
section
variable{prog:UN}{w:World}{A:U6}{E:Value->Uj->Prop}{s:Uj}
theorem SH{α :Type}{c:Prop}[Decidable c]{m m':Sem α}{M:Model}{Q: α ->Uj->Prop}(hc: ¬ c)(h:wpAny M A m' Q E s):wpAny M A (if c then m else m') Q E s:=by rw[if_neg hc];exact h
theorem kO{it t:Addr}{i:Nat}{items:Array Value}{x:Value}{Q:Value->Uj->Prop}(hit:s.heap.IsTupleIter it t i)(ht:s.heap.IsTuple t items)(hx:items[i]?=some x)
  (q: ∀ h',h'.IsTupleIter it t (i+1)->ZC it s.heap h'->Q x { s with heap:=h' }):wpAny (model prog w) A (Vs (.ref it)) Q E s:=by
 obtain⟨oi,g1,c1,d1⟩:=id hit;obtain⟨ot,g2,_,k,d2⟩:=id ht;have new:(s.heap.update it (Obj.mapFields (·.setIfInBounds 1 (abh ((i:Int)+1))))).IsTupleIter it t (i+1):=⟨_,Z2 _ g1 (Obj.isFreed_of_fields (aaU d1 _)),(Obj.cls_mapFields ..).trans c1,(aaU d1 _).trans (by simp[abh])⟩
 refine Ue (VN (name:=UC "__next__") hit.typeIs VU (V2 VU hit.typeIs XH ?_ (XD (.ref it))));refine Ue (m:=field (.ref it) 0) (VF g1 d1 (x:= .ref t) rfl (SH (λz=>nomatch z) (Ue (m:=field (.ref it) 1) (VF g1 d1 (x:= .int i 0) rfl (Ue (m:=seqItems? (.ref t)) (V7 g2 d2 ?_))))));dsimp only;rw[Vr,hx];exact Ue (wpAny_setField g1 d1 (by simp) (Us ⟨x,rfl,Us (q _ new (aaz ..))⟩))
theorem su{it t:Addr}{i:Nat}{items:Array Value}{Q:Value->Uj->Prop}(hh:A.handled=none)(hit:s.heap.IsTupleIter it t i)(ht:s.heap.IsTuple t items)(hx:items[i]?=none)
  (q: ∀ h' e,Heap.ExtBut it s.heap h'->(∃ o,h'.get? e=some o/\o.cls= .type "StopIteration")->E (.ref e) { s with heap:=h' }):wpAny (model prog w) A (Vs (.ref it)) Q E s:=by
 obtain⟨oi,g1,c1,d1⟩:=id hit;obtain⟨ot,g2,_,k,d2⟩:=id ht;refine Ue (VN (name:=UC "__next__") hit.typeIs VU (V2 VU hit.typeIs XH ?_ (XD (.ref it))));refine Ue (m:=field (.ref it) 0) (VF g1 d1 (x:= .ref t) rfl (SH (λz=>nomatch z) (Ue (m:=field (.ref it) 1) (VF g1 d1 (x:= .int i 0) rfl (Ue (m:=seqItems? (.ref t)) (V7 g2 d2 ?_))))));dsimp only;rw[Vr,hx];refine Ue (ZN (Ue (wpAny_setField g1 d1 (by simp) (Ue (m:=newExc (.type "StopIteration") []) (Ue (m:=newTuple []) (VG ?_ (by size_fits)))))));refine Ue (m:=firstArgMember _ _) (wpAny_of_eq (a:=Wl) (by simp only[firstArgMember];rfl) (VG ?_ (by size_fits)));unfold raiseNew;refine Ue (wpAny_handled ?_);rw[show A.in1.handled=none from hh];exact Ue (Us (wpAny_throw (q _ _ (((aaz ..).extBut.push _).push _) ⟨_,UB _ rfl,rfl⟩)))
structure wj(h:Heap)(z TI TO i1 i2 l1 l2:Addr)(k:Nat):Prop where
 zQ:IsZip h z TI TO .none
 aj:XT h TI (.ref i1) (.ref i2)
 old: ∃ a b,XT h TO a b
 one:h.IsTupleIter i1 l1 k
 two:h.IsTupleIter i2 l2 k
theorem Bb{z TI TO i1 i2 l1 l2:Addr}{k:Nat}{xs ys:Array Value}{x y:Value}{Q:Value->Uj->Prop}(D:abb z TI TO i1 i2 l1 l2)(Z:wj s.heap z TI TO i1 i2 l1 l2 k)(t1:s.heap.IsTuple l1 xs)(t2:s.heap.IsTuple l2 ys)(hx:xs[k]?=some x)(hy:ys[k]?=some y)
  (q: ∀ h',IsZip h' z TI TO (abh s.heap.objs.size)->XT h' TI (.ref i1) (.ref i2)->XT h' TO x y->h'.IsTupleIter i1 l1 (k+1)->h'.IsTupleIter i2 l2 (k+1)->XT h' s.heap.objs.size x y ->
   (∀ c o,c≠z->c≠TO->c≠i1->c≠i2->s.heap.get? c=some o->h'.get? c=some o)->Q (.ref s.heap.objs.size) { s with heap:=h' }):wpAny (model prog w) A (Xa.«zip.__next__» ⟨[.ref z],[]⟩) (λr u=> ∃ v,r= .done (.ret v)/\Q v u) E s:=by
 obtain⟨hz,hTI,⟨a,b,hTO⟩,o1,o2⟩:=Z;refine Ue (m:=field (.ref z) 2) (VF hz rfl (x:= .bool false) rfl ?_);refine Ue (m:=field (.ref z) 3) (VF hz rfl (x:= .ref TI) rfl (Ue (V7 hTI rfl ?_)));refine Ue (m:=Xv (.ref z)) (Ue (m:=field (.ref z) 0) (VF hz rfl (x:= .none) rfl (Us (RO rfl (Ue (ZN ?_))))));refine Ue (m:=field (.ref z) 4) (VF hz rfl (x:= .ref TO) rfl (Ue (Wr hz (by simp) λu1 z1 b1=>?_)))
 replace z1:IsZip u1 z TI TO .ellipsis:=z1
 refine Ue ?_;rw[show(#[UJ i1,UJ i2]:Array Value).toList.zipIdx=[(UJ i1,0),(UJ i2,1)] from rfl,WY];refine Ue (Ue (Ya (Ue (m:=Vs (.ref i1)) (kO (o1.at λo e=>b1.extBut _ _ D.i1z e) (t1.at λo e=>b1.extBut _ _ D.l1z e) hx λu2 p1 b2=>Us ?_))));have T2:XT u2 TO a b:=b2.extBut _ _ D.TOi1 (b1.extBut _ _ D.TOz hTO);refine Ue (V7 T2 rfl (Ue (Ye T2 λu3 T3 b3=>Ue (abA (Us ?_)))))
 replace T3:XT u3 TO x b:=T3
 have k3: ∀ c o,c≠z->c≠TO->c≠i1->s.heap.get? c=some o->u3.get? c=some o:=λc o n1 n2 n3 e=>b3.extBut _ _ n2 (b2.extBut _ _ n3 (b1.extBut _ _ n1 e));dsimp only;rw[WY];refine Ue (Ue (Ya (Ue (m:=Vs (.ref i2)) (kO (o2.at λo e=>k3 _ o D.i2z D.TOi2.symm D.i12.symm e) (t2.at λo e=>k3 _ o D.l2z D.l2TO D.l2i1 e) hy λu4 p2 b4=>Us ?_))));have T4:XT u4 TO x b:=b4.extBut _ _ D.TOi2 T3;refine Ue (V7 T4 rfl (Ue (Ye T4 λu5 T5 b5=>Ue (abA (Us ?_)))))
 replace T5:XT u5 TO x y:=T5
 have k5: ∀ c o,c≠z->c≠TO->c≠i1->c≠i2->s.heap.get? c=some o->u5.get? c=some o:=λc o n1 n2 n3 n4 e=>b5.extBut _ _ n2 (b4.extBut _ _ n4 (k3 c o n1 n2 n3 e));have sz:u5.objs.size=s.heap.objs.size:=b5.1.trans (b4.1.trans (b3.1.trans (b2.1.trans b1.1)));have z5:IsZip u5 z TI TO .ellipsis:=b5.extBut _ _ D.TOz.symm (b4.extBut _ _ D.i2z.symm (b3.extBut _ _ D.TOz.symm (b2.extBut _ _ D.i1z.symm z1)));have p15:u5.IsTupleIter i1 l1 (k+1):=p1.at λo e=>b5.extBut _ _ D.TOi1.symm (b4.extBut _ _ D.i12 (b3.extBut _ _ D.TOi1.symm e));have p25:u5.IsTupleIter i2 l2 (k+1):=p2.at λo e=>b5.extBut _ _ D.TOi2.symm e;have lz:z < u5.objs.size:=Ux z5;dsimp only;rw[abK];refine Us (Ue (V7 T5 rfl (Ue (wpAny_newTuple ?_ (by show 2<=sizeLine;decide)))));have z6:IsZip (u5.push { cls:= .type "tuple",data:= .seq #[x,y] }) z TI TO .ellipsis:=Uk _ z5;refine Ue (m:=aaA (.ref z) (.ref u5.objs.size)) (Ue (Wr z6 (by simp) λu7 z7 b7=>Wr (show IsZip u7 z TI TO (abh u5.objs.size) from z7) (by simp) λu8 z8 b8=>Us ⟨_,rfl,?_⟩));have up: ∀ c o,c≠z->u5.get? c=some o->u8.get? c=some o:=λc o n e=>b8.extBut _ _ n (b7.extBut _ _ n (Uk _ e));have T8:XT u8 u5.objs.size x y:=b8.extBut _ _ (Xg lz) (b7.extBut _ _ (Xg lz) (UB _ rfl))
 replace z8:IsZip u8 z TI TO (abh u5.objs.size):=z8
 rw[sz] at z8 T8 ⊢;exact q u8 z8 (up _ _ D.TIz (k5 _ _ D.TIz D.TITO D.TIi1 D.TIi2 hTI)) (up _ _ D.TOz T5) (p15.at λo e=>up _ o D.i1z e) (p25.at λo e=>up _ o D.i2z e) T8 λc o n1 n2 n3 n4 e=>up c o n1 (k5 c o n1 n2 n3 n4 e)
theorem D8{z TI TO i1 i2 l1 l2:Addr}{k:Nat}{xs ys:Array Value}{Q:PySem.Fin->Uj->Prop}(hh:A.handled=none)(D:abb z TI TO i1 i2 l1 l2)(Z:wj s.heap z TI TO i1 i2 l1 l2 k)(t1:s.heap.IsTuple l1 xs)(t2:s.heap.IsTuple l2 ys)(he:xs[k]?=none\/ys[k]?=none)
  (q: ∀ h' e,(∀ c o,c≠z->c≠TO->c≠i1->c≠i2->s.heap.get? c=some o->h'.get? c=some o)->(∃ o,h'.get? e=some o/\o.cls= .type "StopIteration")->E (.ref e) { s with heap:=h' }):wpAny (model prog w) A (Xa.«zip.__next__» ⟨[.ref z],[]⟩) Q E s:=by
 obtain⟨hz,hTI,⟨a,b,hTO⟩,o1,o2⟩:=Z;have ap: ∀(h':Heap)(f0:Value)(e:Addr)(o:Obj),IsZip h' z TI TO f0->h'.get? e=some o->o.cls= .type "StopIteration" ->e≠z:=λh' f0 e o y g c n=>by rw[n,y] at g;cases g;simp at c
 refine Ue (m:=field (.ref z) 2) (VF hz rfl (x:= .bool false) rfl ?_);refine Ue (m:=field (.ref z) 3) (VF hz rfl (x:= .ref TI) rfl (Ue (V7 hTI rfl ?_)));refine Ue (m:=Xv (.ref z)) (Ue (m:=field (.ref z) 0) (VF hz rfl (x:= .none) rfl (Us (RO rfl (Ue (ZN ?_))))));refine Ue (m:=field (.ref z) 4) (VF hz rfl (x:= .ref TO) rfl (Ue (Wr hz (by simp) λu1 z1 b1=>?_)))
 replace z1:IsZip u1 z TI TO .ellipsis:=z1
 refine Ue ?_;rw[show(#[UJ i1,UJ i2]:Array Value).toList.zipIdx=[(UJ i1,0),(UJ i2,1)] from rfl,WY]
 match hx:xs[k]? with
 | none =>
  refine Ue (Ue (Ya (Ue (m:=Vs (.ref i1)) (su hh (o1.at λo e=>b1.extBut _ _ D.i1z e) (t1.at λo e=>b1.extBut _ _ D.l1z e) hx λu2 e b2 g=>?_))))
  obtain⟨oe,g1,g2⟩:=g
  have z2:IsZip u2 z TI TO .ellipsis:=b2 _ _ D.i1z.symm z1
  exact Wr z2 (by simp) λu3 _ b3=>q u3 e (λc o n1 _ n3 _ y=>b3.extBut _ _ n1 (b2 _ _ n3 (b1.extBut _ _ n1 y))) ⟨oe,b3.extBut _ _ (ap u2 _ e oe z2 g1 g2) g1,g2⟩
 | some x =>
  have hy:ys[k]?=none:=he.resolve_left (by rw[hx];intro y;cases y)
  refine Ue (Ue (Ya (Ue (m:=Vs (.ref i1)) (kO (o1.at λo e=>b1.extBut _ _ D.i1z e) (t1.at λo e=>b1.extBut _ _ D.l1z e) hx λu2 p1 b2=>Us ?_))))
  have T2:XT u2 TO a b:=b2.extBut _ _ D.TOi1 (b1.extBut _ _ D.TOz hTO)
  refine Ue (V7 T2 rfl (Ue (Ye T2 λu3 T3 b3=>Ue (abA (Us ?_)))))
  have k3: ∀ c o,c≠z->c≠TO->c≠i1->s.heap.get? c=some o->u3.get? c=some o:=λc o n1 n2 n3 e=>b3.extBut _ _ n2 (b2.extBut _ _ n3 (b1.extBut _ _ n1 e))
  dsimp only
  rw[WY]
  refine Ue (Ue (Ya (Ue (m:=Vs (.ref i2)) (su hh (o2.at λo e=>k3 _ o D.i2z D.TOi2.symm D.i12.symm e) (t2.at λo e=>k3 _ o D.l2z D.l2TO D.l2i1 e) hy λu4 e b4 g=>?_))))
  obtain⟨oe,g1,g2⟩:=g
  have z4:IsZip u4 z TI TO .ellipsis:=b4 _ _ D.i2z.symm (b3.extBut _ _ D.TOz.symm (b2.extBut _ _ D.i1z.symm z1))
  exact Wr z4 (by simp) λu5 _ b5=>q u5 e (λc o n1 n2 n3 n4 y=>b5.extBut _ _ n1 (b4 _ _ n4 (k3 c o n1 n2 n3 y))) ⟨oe,b5.extBut _ _ (ap u4 _ e oe z4 g1 g2) g1,g2⟩
theorem pP{z TI TO i1 i2 l1 l2:Addr}{k:Nat}{xs ys:Array Value}{x y:Value}{Q:Option Value->Uj->Prop}(D:abb z TI TO i1 i2 l1 l2)(Z:wj s.heap z TI TO i1 i2 l1 l2 k)(t1:s.heap.IsTuple l1 xs)(t2:s.heap.IsTuple l2 ys)(hx:xs[k]?=some x)(hy:ys[k]?=some y)
  (q: ∀ h',IsZip h' z TI TO (abh s.heap.objs.size)->XT h' TI (.ref i1) (.ref i2)->XT h' TO x y->h'.IsTupleIter i1 l1 (k+1)->h'.IsTupleIter i2 l2 (k+1)->XT h' s.heap.objs.size x y ->
   (∀ c o,c≠z->c≠TO->c≠i1->c≠i2->s.heap.get? c=some o->h'.get? c=some o)->Q (some (.ref s.heap.objs.size)) { s with heap:=h' }):wpAny (model prog w) A (abf (.ref z)) Q E s :=
 have ty:s.TypeIs (.ref z) "zip" :=⟨_,Z.zQ,rfl⟩
 Ue (wpAny_attempt (VN (name:=UC "__next__") ty W6 (V2 W6 ty ZP (Bb D Z t1 t2 hx hy λh' a1 a2 a3 a4 a5 a6 a7=>Us (q h' a1 a2 a3 a4 a5 a6 a7)) (Zx (.ref z)))))
theorem rq{z TI TO i1 i2 l1 l2:Addr}{k:Nat}{xs ys:Array Value}{Q:Option Value->Uj->Prop}(hh:A.handled=none)(D:abb z TI TO i1 i2 l1 l2)(Z:wj s.heap z TI TO i1 i2 l1 l2 k)(t1:s.heap.IsTuple l1 xs)(t2:s.heap.IsTuple l2 ys)(he:xs[k]?=none\/ys[k]?=none)
  (q: ∀ h',(∀ c o,c≠z->c≠TO->c≠i1->c≠i2->s.heap.get? c=some o->h'.get? c=some o)->Q none { s with heap:=h' }):wpAny (model prog w) A (abf (.ref z)) Q E s :=
 have ty:s.TypeIs (.ref z) "zip" :=⟨_,Z.zQ,rfl⟩
 Ue (wpAny_attempt (VN (name:=UC "__next__") ty W6 (V2 W6 ty ZP (D8 (A:=A.in1) hh D Z t1 t2 he λh' e a1 g =>
  let ⟨o,g1,g2⟩:=g;Ue (wpAny_isInstance (T:= "StopIteration") (b:=true) ⟨o,g1,g2⟩ isSubtype_stop (Us (q h' a1)))) (Zx (.ref z)))))
end
end L2
end
section
open PySem PySem.W PyProof.Rows
namespace P3
open PySem PySem.Spec PyProof.Rows L2
inductive PV where
 | non | bl (b:Bool) | int (i:Int) | str (x:Str) | tup (xs:List PV) | ktup (xs:List PV) | ref (n:Nat) | ty (n:String)
mutual
def PV.beq:PV->PV->Bool
 | .non,.non=>true
 | .bl a,.bl b=>decide (a=b)
 | .int a,.int b=>decide (a=b)
 | .str a,.str b=>decide (a=b)
 | .tup a,.tup b=>PV.yb a b
 | .ktup a,.ktup b=>PV.yb a b
 | .ref a,.ref b=>decide (a=b)
 | .ty a,.ty b=>decide (a=b)
 | _,_=>false
def PV.yb:List PV->List PV->Bool
 | [],[]=>true
 | a::x,b::y=>PV.beq a b&&PV.yb x y
 | _,_=>false
end
mutual
theorem PV.beq_iff: ∀(a b:PV),PV.beq a b=true↔a=b
 | .non,b=>by cases b<;>simp[PV.beq]
 | .bl _,b=>by cases b<;>simp[PV.beq]
 | .int _,b=>by cases b<;>simp[PV.beq]
 | .str _,b=>by cases b<;>simp[PV.beq]
 | .ref _,b=>by cases b<;>simp[PV.beq]
 | .ty _,b=>by cases b<;>simp[PV.beq]
 | .tup a,b=>by
  cases b with
  | tup b=>rw[PV.beq,PV.oM a b];simp
  | _=>simp[PV.beq]
 | .ktup a,b=>by
  cases b with
  | ktup b=>rw[PV.beq,PV.oM a b];simp
  | _=>simp[PV.beq]
theorem PV.oM: ∀(a b:List PV),PV.yb a b=true↔a=b
 | [],b=>by cases b<;>simp[PV.yb]
 | a::x,b=>by
  cases b with
  | nil=>simp[PV.yb]
  | cons b y=>rw[PV.yb,UD,PV.beq_iff a b,PV.oM x y];simp
end
instance:DecidableEq PV:=λa b=>decidable_of_iff _ (PV.beq_iff a b)
mutual
def PV.flat:PV->Bool
 | .ref _=>false
 | .tup xs=>PV.bF xs
 | .ktup xs=>PV.bF xs
 | _=>true
def PV.bF:List PV->Bool
 | []=>true
 | x::r=>x.flat&&PV.bF r
end
mutual
def PV.iU(n:Nat):PV->Bool
 | .ref m=>decide (m < n)
 | .tup xs=>PV.jc n xs
 | .ktup xs=>PV.jc n xs
 | _=>true
def PV.jc(n:Nat):List PV->Bool
 | []=>true
 | x::r=>x.iU n&&PV.jc n r
end
inductive PO where
 | lst (xs:List PV) | kR (xs:List PV) | dct (kvs:List (Key × PV))
 deriving DecidableEq
noncomputable def PO.gJ:PO->Bool
 | .kR _=>false
 | _=>true
noncomputable def PO.iU(n:Nat):PO->Bool
 | .lst xs=>PV.jc n xs
 | .kR xs=>PV.jc n xs
 | .dct kvs=>PV.jc n (kvs.map (·.2))
abbrev PH:=List PO
abbrev ao:=List (Option PV)
noncomputable def KT(K:Ud)(a:Addr)(xs:List V):Prop:= ∃(o:Obj)(aj:Array Value)(n:Nat),K.lookup a=some o/\o.cls= .type "tuple" /\o.data= .seq aj n/\aj.size<=sizeLine/\Vals xs aj.toList
mutual
def rel(K:Ud)(ρ :List Addr)(H:Hp):PV->V->Prop
 | .non,v=>v= .non
 | .bl b,v=>v= .bl b
 | .int i,v=>v= .int i
 | .str x,v=>v= .str x
 | .ty n,v=>v= .ty n
 | .ref n,v=> ∃ a, ρ[n]?=some a∧v= .ref a
 | .tup xs,v=> ∃ a vs,v= .ref a∧H a=some (.tup vs)∧av K ρ H xs vs
 | .ktup xs,v=> ∃ a vs,v= .ref a∧KT K a vs∧av K ρ H xs vs
def av (K:Ud) (ρ :List Addr) (H:Hp):List PV->List V->Prop
 | [],vs=>vs=[]
 | x::r,vs=> ∃ v t,vs=v::t∧rel K ρ H x v∧av K ρ H r t
end
structure Gr (ρ :List Addr) (H:Hp) (ρ':List Addr) (H':Hp):Prop where
 pre: ∀ (n:Nat) (a:Addr), ρ[n]?=some a-> ρ'[n]?=some a
 tup: ∀ a xs,H a=some (.tup xs)->H' a=some (.tup xs)
 kI: ∀ a o u,H a=some (.kI o u)->H' a=some (.kI o u)
theorem Gr.refl (ρ :List Addr) (H:Hp):Gr ρ H ρ H:=⟨λ_ _ h=>h,λ_ _ h=>h,λ_ _ _ h=>h⟩
theorem Gr.trans{ρ ρ1 ρ2:List Addr}{H H1 H2:Hp}(a:Gr ρ H ρ1 H1)(b:Gr ρ1 H1 ρ2 H2):Gr ρ H ρ2 H2 :=
 ⟨λn x h=>b.pre n x (a.pre n x h),λx xs h=>b.tup x xs (a.tup x xs h),λx o u h=>b.kI x o u (a.kI x o u h)⟩
section
variable{K:Ud}{ρ ρ':List Addr}{H H':Hp}
theorem Gr.J3(g:Gr ρ H ρ' H'){a:Addr}{xs:List V}(h:fM K H a xs):fM K H' a xs:=by
 rcases h with(h | ⟨o,h⟩) | h
 . exact .inl (.inl (g.tup _ _ h))
 . exact .inl (.inr ⟨o,g.kI _ _ _ h⟩)
 . exact .inr h
theorem Gr.T7(g:Gr ρ H ρ' H'){a:Addr}{xs:List V}(h:yB K H a xs):yB K H' a xs:=by
 rcases h with⟨o,h⟩ | h
 . exact .inl ⟨o,g.kI _ _ _ h⟩
 . exact .inr h
mutual
theorem rel.gr(g:Gr ρ H ρ' H'): ∀(x:PV)(v:V),rel K ρ H x v->rel K ρ' H' x v
 | .non,v,h=>by simpa only[rel] using h
 | .bl _,v,h=>by simpa only[rel] using h
 | .int _,v,h=>by simpa only[rel] using h
 | .str _,v,h=>by simpa only[rel] using h
 | .ty _,v,h=>by simpa only[rel] using h
 | .ref n,v,h=>by
  rw[rel] at h ⊢;obtain⟨a,e,h⟩:=h;exact⟨a,g.pre _ _ e,h⟩
 | .tup xs,v,h=>by
  rw[rel] at h ⊢;obtain⟨a,vs,e,s,r⟩:=h;exact⟨a,vs,e,g.tup _ _ s,av.gr g xs vs r⟩
 | .ktup xs,v,h=>by
  rw[rel] at h ⊢;obtain⟨a,vs,e,s,r⟩:=h;exact⟨a,vs,e,s,av.gr g xs vs r⟩
theorem av.gr(g:Gr ρ H ρ' H'): ∀(xs:List PV)(vs:List V),av K ρ H xs vs->av K ρ' H' xs vs
 | [],vs,h=>by simpa only[av] using h
 | x::r,vs,h=>by
  rw[av] at h ⊢;obtain⟨v,t,e,h1,h2⟩:=h;exact⟨v,t,e,rel.gr g x v h1,av.gr g r t h2⟩
end
noncomputable def PV.seq?:PV->Option (List PV)
 | .tup xs=>some xs
 | .ktup xs=>some xs
 | _=>none
theorem rel.seq{x:PV}{xs:List PV}{v:V}(e:x.seq?=some xs)(h:rel K ρ H x v): ∃ a vs,v= .ref a/\fM K H a vs/\av K ρ H xs vs:=by
 cases x<;>simp only[PV.seq?,reduceCtorEq,W9] at e
 . subst e;rw[rel] at h;obtain⟨a,vs,e,z,r⟩:=h;exact⟨a,vs,e,.of z,r⟩
 . subst e;rw[rel] at h;obtain⟨a,vs,e,z,r⟩:=h;exact⟨a,vs,e,.inr z,r⟩
theorem aI{vs:List V}:av K ρ H [] vs↔vs=[]:=by rw[av]
theorem aD{x:PV}{r:List PV}{vs:List V}:av K ρ H (x::r) vs↔ ∃ v t,vs=v::t/\rel K ρ H x v/\av K ρ H r t:=by rw[av]
theorem av.len: ∀{xs:List PV}{vs:List V},av K ρ H xs vs->xs.length=vs.length
 | [],vs,h=>by rw[aI] at h;rw[h];rfl
 | x::r,vs,h=>by
  obtain⟨v,t,rfl,_,h2⟩:=aD.mp h;simp[av.len h2]
theorem av.get: ∀{xs:List PV}{vs:List V}{i:Nat}{x:PV},av K ρ H xs vs->xs[i]?=some x-> ∃ v,vs[i]?=some v/\rel K ρ H x v
 | [],vs,i,x,h,e=>by simp at e
 | y::r,vs,i,x,h,e=>by
  obtain⟨v,t,rfl,h1,h2⟩:=aD.mp h;cases i with
  | zero=>simp at e;subst e;exact⟨v,rfl,h1⟩
  | succ i=>simpa using av.get h2 (by simpa using e)
theorem av.app: ∀{xs ys:List PV}{vs ws:List V},av K ρ H xs vs->av K ρ H ys ws->av K ρ H (xs++ys) (vs++ws)
 | [],ys,vs,ws,h,h'=>by rw[aI] at h;subst h;exact h'
 | x::r,ys,vs,ws,h,h'=>by
  obtain⟨v,t,rfl,h1,h2⟩:=aD.mp h;exact aD.mpr ⟨v,t++ws,rfl,h1,av.app h2 h'⟩
theorem av.one{x:PV}{v:V}(h:rel K ρ H x v):av K ρ H [x] [v]:=aD.mpr ⟨v,[],rfl,h,aI.mpr rfl⟩
theorem av.take: ∀{xs:List PV}{vs:List V}(n:Nat),av K ρ H xs vs->av K ρ H (xs.take n) (vs.take n)
 | xs,vs,0,h=>by simp[aI]
 | [],vs,n+1,h=>by rw[aI] at h;subst h;simp[aI]
 | x::r,vs,n+1,h=>by
  obtain⟨v,t,rfl,h1,h2⟩:=aD.mp h;exact aD.mpr ⟨v,t.take n,rfl,h1,av.take n h2⟩
theorem av.drop: ∀{xs:List PV}{vs:List V}(n:Nat),av K ρ H xs vs->av K ρ H (xs.drop n) (vs.drop n)
 | xs,vs,0,h=>h
 | [],vs,n+1,h=>by rw[aI] at h;subst h;simp[aI]
 | x::r,vs,n+1,h=>by
  obtain⟨v,t,rfl,h1,h2⟩:=aD.mp h;exact av.drop n h2
theorem av.set: ∀{xs:List PV}{vs:List V}{x:PV}{v:V}(i:Nat),av K ρ H xs vs->rel K ρ H x v->av K ρ H (xs.set i x) (vs.set i v)
 | [],vs,x,v,i,h,hv=>by rw[aI] at h;subst h;simp[aI]
 | y::r,vs,x,v,i,h,hv=>by
  obtain⟨w,t,rfl,h1,h2⟩:=aD.mp h;cases i with
  | zero=>exact aD.mpr ⟨v,t,rfl,hv,h2⟩
  | succ i=>exact aD.mpr ⟨w,t.set i v,rfl,h1,av.set i h2 hv⟩
theorem av.ints: ∀(ns:List Int),av K ρ H (ns.map PV.int) (ns.map V.int)
 | []=>aI.mpr rfl
 | n::r=>aD.mpr ⟨.int n,r.map V.int,rfl,by rw[rel],av.ints r⟩
end
noncomputable def m4(K:Ud)(ρ :List Addr)(H:Hp)(a:Addr):PO->Prop
 | .lst xs=> ∃ vs,H a=some (.lst vs)/\av K ρ H xs vs
 | .kR xs=> ∃ vs,yB K H a vs/\av K ρ H xs vs
 | .dct kvs=> ∃ kws,H a=some (.dK kws)/\Vt (λ(p:Key × PV) (q:Key × V)=>p.1=q.1/\rel K ρ H p.2 q.2) kvs kws
structure dy(K:Ud)(ρ :List Addr)(h:PH)(H:Hp):Prop where
 len: ρ.length=h.length
 nd: ∀(i j:Nat)(a:Addr)(oi oj:PO),h[i]?=some oi->h[j]?=some oj->oi.gJ=true->oj.gJ=true-> ρ[i]?=some a-> ρ[j]?=some a->i=j
 ob: ∀ (i:Nat) (o:PO) (a:Addr),h[i]?=some o-> ρ[i]?=some a->m4 K ρ H a o
section
variable {K:Ud} {ρ ρ':List Addr} {H H':Hp} {h:PH}
theorem dy.at (s:dy K ρ h H) {i:Nat} {o:PO} (e:h[i]?=some o): ∃ a, ρ[i]?=some a∧m4 K ρ H a o:=by
 have hi:i < ρ.length:=by rw [s.len];exact (Uh.mp e).1
 exact ⟨ρ[i],Ur hi,s.ob i o _ e (Ur hi)⟩
theorem Paired.jG {kvs:List (Key × PV)} {kws:List (Key × V)} (g:Gr ρ H ρ' H') (h:Vt (λ(p:Key × PV) (q:Key × V)=>p.1=q.1∧rel K ρ H p.2 q.2) kvs kws) :
  Vt (λ(p:Key × PV) (q:Key × V)=>p.1=q.1/\rel K ρ' H' p.2 q.2) kvs kws:=Paired.Be h λ_ _ z=>⟨z.1,rel.gr g _ _ z.2⟩
theorem jm{a:Addr}{o:PO}(m:o.gJ=true)(r:m4 K ρ H a o):(∃ vs,H a=some (.lst vs))\/ ∃ kws,H a=some (.dK kws):=by
 cases o with
 | lst xs=>obtain⟨vs,e,_⟩:=r;exact .inl ⟨vs,e⟩
 | kR xs=>exact nomatch m
 | dct kvs=>obtain⟨kws,e,_⟩:=r;exact .inr ⟨kws,e⟩
theorem mU{a:Addr}{o:PO}(g:Gr ρ H ρ' H')(k:o.gJ=true->H' a=H a)(r:m4 K ρ H a o):m4 K ρ' H' a o:=by
 cases o with
 | lst xs=>obtain⟨vs,e,r⟩:=r;exact⟨vs,(k rfl).trans e,av.gr g _ _ r⟩
 | kR xs=>obtain ⟨vs,e,r⟩:=r;exact ⟨vs,g.T7 e,av.gr g _ _ r⟩
 | dct kvs=>obtain ⟨kws,e,r⟩:=r;exact ⟨kws,(k rfl).trans e,Paired.jG g r⟩
theorem Gr.new {p : Addr} {o : HO} (hp : H p = none) (l : List Addr) : Gr ρ H (ρ ++ l) (upd H p o) :=
  ⟨λn a e => by rw [U4 (Uh.mp e).1]; exact e,
   λa xs e => by rw [aB (aC e hp)]; exact e, λa o u e => by rw [aB (aC e hp)]; exact e⟩
theorem Gr.Ak {p:Addr} {o:HO} (hp:H p=none):Gr ρ H ρ (upd H p o):=by simpa using Gr.new (ρ := ρ) (o:=o) hp []
theorem dy.tup (s:dy K ρ h H) {p:Addr} {o:HO} (hp:H p=none):dy K ρ h (upd H p o) :=
 ⟨s.len,s.nd,λi x a e1 e2=>mU (Gr.Ak hp) (λm=>by
  have:=jm m (s.ob i x a e1 e2);refine aB ?_;rcases this with⟨_,z⟩ | ⟨_,z⟩<;>exact aC z hp) (s.ob i x a e1 e2)⟩
theorem dy.new(s:dy K ρ h H){p:Addr}{ho:HO}{o:PO}(hp:H p=none)(r:m4 K (ρ ++[p]) (upd H p ho) p o):dy K (ρ ++[p]) (h++[o]) (upd H p ho):=by
 have g:Gr ρ H (ρ ++[p]) (upd H p ho):=Gr.new hp [p];have old: ∀{i:Nat}{x:PO},(h++[o])[i]?=some x->(i < h.length/\h[i]?=some x)\/(i=h.length/\x=o):=λ{i x} e=>by
  rcases Wg i h.length with z | z
  . rw[U4 z] at e;exact .inl ⟨z,e⟩
  . rw[UM z] at e;have:i - h.length=0:=by
     rcases Nat.eq_zero_or_pos (i - h.length) with y | y
     . exact y
     . rw[Wv (by simp;omega)] at e;exact nomatch e
    rw[this] at e;exact .inr ⟨by omega,by simpa using e.symm⟩
 have oldρ : ∀{i:Nat}{a:Addr},i < h.length->(ρ ++[p])[i]?=some a-> ρ[i]?=some a:=λ{i a} z e=>by
  rw[U4 (by rw[s.len];exact z)] at e;exact e
 have newρ : ∀{a:Addr},(ρ ++[p])[h.length]?=some a->a=p:=λ{a} e=>by
  rw[<- s.len,UM (Uo _)] at e;simpa using e.symm
 refine⟨by simp[s.len],λi j a oi oj ei ej mi mj ri rj=>?_,λi x a e1 e2=>?_⟩
 . rcases old ei with⟨zi,ei⟩ | ⟨zi,ei⟩<;>rcases old ej with⟨zj,ej⟩ | ⟨zj,ej⟩
   . exact s.nd i j a oi oj ei ej mi mj (oldρ zi ri) (oldρ zj rj)
   . subst zj;have:=jm mi (s.ob i oi a ei (oldρ zi ri));rw[newρ rj] at this;rcases this with⟨_,z⟩ | ⟨_,z⟩<;>(rw[hp] at z;exact nomatch z)
   . subst zi;have:=jm mj (s.ob j oj a ej (oldρ zj rj));rw[newρ ri] at this;rcases this with⟨_,z⟩ | ⟨_,z⟩<;>(rw[hp] at z;exact nomatch z)
   . rw[zi,zj]
 . rcases old e1 with⟨z,e⟩ | ⟨z,e⟩
   . refine mU g (λm=>?_) (s.ob i x a e (oldρ z e2));have:=jm m (s.ob i x a e (oldρ z e2));refine aB ?_;rcases this with ⟨_,y⟩ | ⟨_,y⟩<;>exact aC y hp
   . subst z;subst e;rw [newρ e2];exact r
theorem Gr.write {a : Addr} {ho : HO} (m : (∃ vs, H a = some (.lst vs)) ∨ ∃ kws, H a = some (.dK kws)) : Gr ρ H ρ (upd H a ho) :=
  ⟨fun _ _ h => h, fun b xs e => by rw [aB]; · exact e
                                    . rintro rfl; rcases m with ⟨_, z⟩ | ⟨_, z⟩ <;> (rw [e] at z; exact nomatch z),
   fun b o u e => by rw [aB]; · exact e
                     . rintro rfl; rcases m with ⟨_, z⟩ | ⟨_, z⟩ <;> (rw [e] at z; exact nomatch z)⟩
theorem dy.write (s:dy K ρ h H) {i:Nat} {a:Addr} {ho:HO} {o o':PO} (e:h[i]?=some o) (ea: ρ[i]?=some a) (m:o.gJ=true) (m':o'.gJ=true) (r:m4 K ρ (upd H a ho) a o') :
  dy K ρ (h.set i o') (upd H a ho):=by
 have ma:=jm m (s.ob i o a e ea);have g:Gr ρ H ρ (upd H a ho):=Gr.write ma;have hi:i < h.length:=(Uh.mp e).1;have at_: ∀{j:Nat}{x:PO},(h.set i o')[j]?=some x->(j=i/\x=o')\/(j≠i/\h[j]?=some x):=λ{j x} q=>by
  by_cases z:j=i
  . subst z;rw[U1 hi] at q;exact .inl ⟨rfl,by simpa using q.symm⟩
  . rw[Vm (V3 z)] at q;exact .inr ⟨z,q⟩
 refine⟨by simp[s.len],λj k b oj ok ej ek mj mk rj rk=>?_,λj x b e1 e2=>?_⟩
 . rcases at_ ej with⟨zj,_⟩ | ⟨_,ej2⟩<;>rcases at_ ek with⟨zk,_⟩ | ⟨_,ek2⟩
   . rw[zj,zk]
   . rw[zj] at rj ⊢; exact s.nd _ _ b o ok e ek2 m mk rj rk
   . rw[zk] at rk ⊢; exact s.nd _ _ b oj o ej2 e mj m rj rk
   . exact s.nd j k b oj ok ej2 ek2 mj mk rj rk
 . rcases at_ e1 with⟨rfl,rfl⟩ | ⟨z,e1⟩
   . rw[ea] at e2;cases e2;exact r
   . refine mU g (λmx=>aB λq=>z ?_) (s.ob j x b e1 e2);subst q;exact s.nd j i b x o e1 e mx m e2 ea
end
inductive RV(α :Type) where
 | ok (a: α) (h:PH) | ex (c:String) (vs:List PV) (h:PH) | no
variable{α β :Type}
noncomputable def RV.bind:RV α ->(α ->PH->RV β)->RV β
 | .ok a h,f=>f a h
 | .ex c vs h,_=> .ex c vs h
 | .no,_=> .no
theorem cH{a: α}{h:PH}{f: α ->PH->RV β}:(RV.ok a h).bind f=f a h:=rfl
theorem bind_eq{r:RV α}{f: α ->PH->RV β}{b: β}{h':PH}:r.bind f= .ok b h'↔ ∃ a h,r= .ok a h/\f a h= .ok b h':=by
 cases r with
 | ok a h=>exact⟨λe=>⟨a,h,rfl,e⟩,λ⟨a',h2,e,q⟩=>by cases e;exact q⟩
 | ex c vs h=>exact⟨λe=>(nomatch e),λ⟨_,_,e,_⟩=>(nomatch e)⟩
 | no=>exact⟨λe=>(nomatch e),λ⟨_,_,e,_⟩=>(nomatch e)⟩
theorem Du{c:Prop}[Decidable c]{a b:RV α}{f: α ->PH->RV β}:(if c then a else b).bind f=if c then a.bind f else b.bind f:=by split<;>rfl
noncomputable def Ok(r:RV α)(Q: α ->PH->Prop):Prop:= ∃ a h,r= .ok a h/\Q a h
abbrev CF:=String->List PV->PH->RV PV
abbrev ME:=CF->ao->PH->RV PV
abbrev MT:=CF->ao->PH->RV Bool
abbrev MA:=CF->ao->PH->RV (List PV)
inductive Fl where
 | nx (e:ao) | rt (v:PV) | bk (e:ao) | ct (e:ao)
abbrev MS:=CF->ao->PH->RV Fl
abbrev MG:=PV->ao->PH->RV ao
structure kQ where
 gd:Option Nat
 items:List PV
abbrev MI:=CF->ao->PH->RV kQ
structure Df where
 ps:List Str
 nl:Nat
 body:MS
structure Tb where
 fns:String->Option Df
 con:Str->Option PV
 yP:Str->Option (List (Key × PV))
noncomputable def cx(n:Nat):PH->PH->Bool
 | [],_=>true
 | _::_,[]=>false
 | o::h,o'::h'=>(decide (o=o')||(o'.iU n&&o.gJ == o'.gJ))&&cx n h h'
noncomputable def settle(h:PH)(v:PV)(h':PH):RV PV:=if (v.flat&&cx h.length h h')=true then .ok v (h'.take h.length) else .ok v h'
theorem kK(n:Nat): ∀(h g:PH),cx n h (h++g)=true
 | [],g=>rfl
 | o::h,g=>by rw[Vq,cx,kK n h g];simp
theorem oS{n:Nat}{o':PO}(hu:o'.iU n=true): ∀(h h':PH)(i:Nat)(o:PO),cx n h h'=true->h[i]?=some o->o.gJ=o'.gJ->cx n h (h'.set i o')=true
 | [],h',i,o,_,e,_=>by simp at e
 | a::h,[],i,o,q,_,_=>by simp[cx] at q
 | a::h,b::h',0,o,q,e,m=>by
  rw[cx,UD] at q;simp at e;subst e;rw[aaV,cx,q.2,hu,m];simp
 | a::h,b::h',i+1,o,q,e,m=>by
  rw[cx,UD] at q;rw[List.set_cons_succ,cx,oS hu h h' i o q.2 (by simpa using e) m,q.1];rfl
theorem px{n:Nat}: ∀{h h':PH},cx n h h'=true->h.length<=h'.length
 | [],h',_=>Vd _
 | o::h,[],e=>by simp[cx] at e
 | o::h,o'::h',e=>by
  rw[cx,UD] at e;simp only[Um];exact Zp (px e.2)
theorem sd{n:Nat}: ∀{h h':PH}{i:Nat}{o':PO},cx n h h'=true->(h'.take h.length)[i]?=some o'-> ∃ o,h[i]?=some o/\o.gJ=o'.gJ/\(o=o'\/o'.iU n=true)
 | [],h',i,o',_,e=>by simp at e
 | a::h,[],i,o',q,_=>by simp[cx] at q
 | a::h,b::h',0,o',q,e=>by
  rw[cx,UD,WZ,UD] at q;simp at e;subst e;refine⟨a,rfl,?_,?_⟩
  . rcases q.1 with z | z
    . rw[of_decide_eq_true z]
    . simpa using z.2
  . rcases q.1 with z | z
    . exact .inl (of_decide_eq_true z)
    . exact .inr z.1
 | a::h,b::h',i+1,o',q,e=>by
  rw[cx,UD] at q;simpa using sd q.2 (by simpa using e)
noncomputable def run(pg:Tb):Nat->CF
 | 0,_,_,_=> .no
 | k+1,f,vs,h=>match pg.fns f with
  | none=> .no
  | some d=>if vs.length=d.ps.length then
    (match d.body (run pg k) (vs.map some++Up d.nl none) h with
    | .ok (.rt v) h'=>settle h v h'
    | .ok (.nx _) h'=>settle h .non h'
    | .ok _ _=> .no
    | .ex c us h'=> .ex c us h'
    | .no=> .no)
   else .no
noncomputable def eE(K:Ud)(ρ :List Addr)(H:Hp)(v:PV)(h':PH)(Q:VK):Prop:= ∀ v' ρ' H',Gr ρ H ρ' H'->dy K ρ' h' H'->rel K ρ' H' v v'->Q v' H'
noncomputable def nL(K:Ud)(ρ :List Addr)(H:Hp)(h':PH)(Q:Hp->Prop):Prop:= ∀ ρ' H',Gr ρ H ρ' H'->dy K ρ' h' H'->Q H'
noncomputable def Qb (K:Ud) (ρ :List Addr) (H:Hp) (vs:List PV) (h':PH) (Q:List V->Hp->Prop):Prop:= ∀ us ρ' H',Gr ρ H ρ' H'->dy K ρ' h' H'->av K ρ' H' vs us->Q us H'
structure ef (K:Ud) (ρ :List Addr) (H:Hp) (e:ao) (σ :L2.St):Prop where
 len:e.length= σ.length
 get: ∀ (i:Nat) (v:PV),e[i]?=some (some v)-> ∃ v', σ[i]?=some (some v')∧rel K ρ H v v'
noncomputable def gx (K:Ud) (ρ :List Addr) (H:Hp) (e':ao) (h':PH) (Q:L2.St->Hp->Prop):Prop:= ∀ σ' ρ' H',Gr ρ H ρ' H'->dy K ρ' h' H'->ef K ρ' H' e' σ'->Q σ' H'
noncomputable def yV (K:Ud) (ρ :List Addr) (H:Hp) (D:Ends) (h':PH):Fl->Prop
 | .nx e=>gx K ρ H e h' D.nx
 | .bk e=>gx K ρ H e h' D.bk
 | .ct e=>gx K ρ H e h' D.ct
 | .rt v=>eE K ρ H v h' D.rt
section
variable{K:Ud}{ρ ρ1:List Addr}{H H1:Hp}{h':PH}
theorem ef.gr{e:ao}{σ :L2.St}(r:ef K ρ H e σ)(g:Gr ρ H ρ1 H1):ef K ρ1 H1 e σ :=⟨r.len,λi v q=>let ⟨v',a,b⟩:=r.get i v q;⟨v',a,rel.gr g _ _ b⟩⟩
theorem ef.set{e:ao}{σ :L2.St}{v:PV}{v':V}(r:ef K ρ H e σ)(i:Nat)(h:rel K ρ H v v'):ef K ρ H (e.set i (some v)) (σ.set i (some v')):=by
 refine⟨by simp[r.len],λj x q=>?_⟩;by_cases z:j=i
 . subst z;have hj:j < e.length:=by
    have:=(Uh.mp q).1;simpa using this
   rw[U1 hj] at q;cases q;exact⟨v',U1 (by rw[<- r.len];exact hj),h⟩
 . rw[Vm (V3 z)] at q ⊢;exact r.get j x q
theorem ef.more{e:ao}{σ :L2.St}(r:ef K ρ H e σ)(k:Nat):ef K ρ H (e++Up k none) (σ ++Up k none):=by
 refine⟨by simp[r.len],λj x q=>?_⟩;rcases Wg j e.length with z | z
 . rw[U4 z] at q;rw[U4 (by rw[<- r.len];exact z)];exact r.get j x q
 . rw[UM z,WO] at q;split at q<;>exact nomatch q
theorem eE.gr{v:PV}{Q:VK}(p:eE K ρ H v h' Q)(g:Gr ρ H ρ1 H1):eE K ρ1 H1 v h' Q:=λv' ρ' H' g'=>p v' ρ' H' (g.trans g')
theorem nL.gr{Q:Hp->Prop}(p:nL K ρ H h' Q)(g:Gr ρ H ρ1 H1):nL K ρ1 H1 h' Q:=fun ρ' H' g'=>p ρ' H' (g.trans g')
theorem gx.gr{e:ao}{Q:L2.St->Hp->Prop}(p:gx K ρ H e h' Q)(g:Gr ρ H ρ1 H1):gx K ρ1 H1 e h' Q:=λv' ρ' H' g'=>p v' ρ' H' (g.trans g')
theorem yV.gr{D:Ends}{f:Fl}(p:yV K ρ H D h' f)(g:Gr ρ H ρ1 H1):yV K ρ1 H1 D h' f:=by
 cases f with
 | nx e=>exact gx.gr p g
 | bk e=>exact gx.gr p g
 | ct e=>exact gx.gr p g
 | rt e=>exact eE.gr p g
end
noncomputable def SE(c:CF)(K:Ud)(t:TE)(m:ME):Prop:= ∀ ρ h H e σ Q v h',dy K ρ h H->ef K ρ H e σ ->m c e h= .ok v h'->eE K ρ H v h' Q->t σ H Q
noncomputable def ST(c:CF)(K:Ud)(t:TT)(m:MT):Prop:= ∀ ρ h H e σ Q b h',dy K ρ h H->ef K ρ H e σ ->m c e h= .ok b h'->nL K ρ H h' (Q b)->t σ H Q
noncomputable def SA(c:CF)(K:Ud)(t:TA)(m:MA):Prop:= ∀ ρ h H e σ Q vs h',dy K ρ h H->ef K ρ H e σ ->m c e h= .ok vs h'->Qb K ρ H vs h' Q->t σ H Q
noncomputable def SS(c:CF)(K:Ud)(t:TS)(m:MS):Prop:= ∀ ρ h H e σ D f h',dy K ρ h H->ef K ρ H e σ ->m c e h= .ok f h'->yV K ρ H D h' f->t D σ H
noncomputable def SG(K:Ud)(t:TG)(m:MG):Prop:= ∀ ρ h H e σ Q v v' e' h',dy K ρ h H->ef K ρ H e σ ->rel K ρ H v v'->m v e h= .ok e' h'->gx K ρ H e' h' Q->t v' σ H Q
noncomputable def kQ.jt(it:kQ)(h:PH):Bool:=match it.gd with
 | none=>true
 | some n=>decide (h[n]?=some (.lst it.items)\/h[n]?=some (.kR it.items))
noncomputable def Ti(K:Ud)(ρ0:List Addr)(H0:Hp)(J:It)(it:kQ):Prop:= ∀ i ρ h H,Gr ρ0 H0 ρ H->dy K ρ h H->it.jt h=true ->
 (∀ x,it.items[i]?=some x->J.go i H∧ ∀ v H',J.Ja i H v H'-> ∃ ρ',Gr ρ H ρ' H'∧dy K ρ' h H'∧rel K ρ' H' x v)∧(i=it.items.length->J.stop i H)
noncomputable def SI (c:CF) (K:Ud) (t:TI) (m:MI):Prop:= ∀ ρ h H e σ R it h',dy K ρ h H->ef K ρ H e σ ->m c e h= .ok it h'->(∀ ρ' H' J,Gr ρ H ρ' H'->dy K ρ' h' H'->Ti K ρ' H' J it->R J H')->t σ H R
noncomputable def xD (K:Ud) (pg:Tb) (k:Nat) (f:String):Sp:=λvs H Q _=> ∃ ρ h args v h',dy K ρ h H∧av K ρ H args vs∧run pg k f args h= .ok v h'∧eE K ρ H v h' Q
noncomputable def jA:List Str:=["len", "range", "isinstance", "int", "bool", "tuple", "dict", "sorted", "min", "max", "abs", "all", "any", "sum", "str", "list", "zip", "set", "repr", "enumerate"]
noncomputable def Ae (K:Ud) (v:V):Prop:= ∀ a,v= .ref a-> ∃ o,K.lookup a=some o∧o.cls= .type "tuple" ∧o.dict=none
structure dm (X:Cx) (pg:Tb) (k:Nat):Prop where
 room:dP k X.A
 calm:X.calm=true
 qy: ∀ v s,¬ X.xe v s
 defs: ∀ f d,pg.fns f=some d->nG X.prog X.w X.K X.mg X.base (UC f) k d.ps (xD X.K pg k f)
 blt: ∀ x∈jA,X.mg x=none
 con: ∀ x v,pg.con x=some v-> ∃ u v',X.mg x=some u/\RelV v' u/\Ae X.K v'/\ ∀ ρ H,rel X.K ρ H v v'
 yP: ∀ x kvs,pg.yP x=some kvs-> ∃ a kws,X.mg x=some (.ref a)/\KD X.prog X.w X.K a kws/\ ∀ ρ H,Vt (λ(p:Key × PV) (q:Key × V)=>p.1=q.1/\rel X.K ρ H p.2 q.2) kvs kws
theorem dm.fk{X:Cx}{pg:Tb}{k:Nat}(a:dm X pg k)(vars:List Str)(scope:Scope)(cl:List (Str × Addr))(C:Addr)(s₀ :Uj)(H₀ :Hp)(ex:List Addr)(pn:List (Addr × Obj)):dm (fk X vars scope cl C s₀ H₀ ex pn) pg k :=
 ⟨a.room,a.calm,a.qy,a.defs,a.blt,a.con,a.yP⟩
structure JE(X:Cx)(pg:Tb)(k:Nat)(e:Expr)(m:ME):Prop where h:dm X pg k-> ∃ t,QE X e t/\SE (run pg k) X.K t m
structure JT(X:Cx)(pg:Tb)(k:Nat)(e:Expr)(m:MT):Prop where h:dm X pg k-> ∃ t,QT X e t/\ST (run pg k) X.K t m
structure JW(X:Cx)(pg:Tb)(k:Nat)(e:Expr)(m:MT):Prop where h:dm X pg k-> ∃ t,QW X e t/\ST (run pg k) X.K t m
structure JA(X:Cx)(pg:Tb)(k:Nat)(e:List Expr)(m:MA):Prop where h:dm X pg k-> ∃ t,QA X e t/\SA (run pg k) X.K t m
structure JS(X:Cx)(pg:Tb)(k:Nat)(s:Stmt)(m:MS):Prop where h:dm X pg k-> ∃ t,QS X s t/\SS (run pg k) X.K t m
structure yF(X:Cx)(pg:Tb)(k:Nat)(s:List Stmt)(m:MS):Prop where h:dm X pg k-> ∃ t,CD X s t/\SS (run pg k) X.K t m
structure JG(X:Cx)(pg:Tb)(k:Nat)(e:Expr)(m:MG):Prop where h:dm X pg k-> ∃ t,QG X e t/\SG X.K t m
structure JI(X:Cx)(pg:Tb)(k:Nat)(tg e:Expr)(m:MI):Prop where h:dm X pg k-> ∃ t,QI X tg e t/\SI (run pg k) X.K t m
structure JF(X:Cx)(pg:Tb)(k:Nat)(es:List Expr)(m:MT):Prop where h:dm X pg k-> ∃ t,QF X es t/\ST (run pg k) X.K t m
noncomputable def nH(K:Ud)(r:R2)(f:PV->PV->PH->RV PV):Prop:= ∀ ρ h H x y x' y' Q v h',dy K ρ h H->rel K ρ H x x'->rel K ρ H y y'->f x y h= .ok v h'->eE K ρ H v h' Q->r x' y' H Q
noncomputable def Bw(K:Ud)(r:List V->Hp->VK->Prop)(f:List PV->PH->RV PV):Prop:= ∀ ρ h H xs us Q v h',dy K ρ h H->av K ρ H xs us->f xs h= .ok v h'->eE K ρ H v h' Q->r us H Q
noncomputable def RD(K:Ud)(T:String)(r:V->List V->Hp->VK->Prop)(f:PV->List PV->PH->RV PV)(ty:PV->PH->Bool):Prop :=
 (∀ ρ h H x x',dy K ρ h H->rel K ρ H x x'->ty x h=true->Rq K T x' H) /\
 ∀ ρ h H x x' xs us Q v h',dy K ρ h H->rel K ρ H x x'->av K ρ H xs us->f x xs h= .ok v h'->eE K ρ H v h' Q->r x' us H Q
noncomputable def aa(i:Nat):ME:=λ_ e h=>match e[i]? with
 | some (some v)=> .ok v h
 | _=> .no
noncomputable def eC(v:PV):ME:=λ_ _ h=> .ok v h
noncomputable def ai(f:PV->PV->PH->RV PV)(a b:ME):ME:=λc e h=>(a c e h).bind λx h1=>(b c e h1).bind λy h2=>f x y h2
noncomputable def Bp(f:PV->PH->RV PV)(a:ME):ME:=λc e h=>(a c e h).bind f
noncomputable def uB(v:PV)(h:PH):RV Bool:=match v with
 | .bl b=> .ok b h
 | _=> .no
noncomputable def B6(a b:ME):ME:=λc e h=>((a c e h).bind uB).bind λx h1=>if x=true then b c e h1 else .ok (.bl false) h1
noncomputable def PL(a b:ME):ME:=λc e h=>((a c e h).bind uB).bind λx h1=>if x=true then .ok (.bl true) h1 else b c e h1
noncomputable def Gz(a:ME):ME:=λc e h=>((a c e h).bind uB).bind λx h1=> .ok (.bl (!x)) h1
noncomputable def uz(t:MT)(a b:ME):ME:=λc e h=>(t c e h).bind λx h1=>if x=true then a c e h1 else b c e h1
noncomputable def aM(a:ME):MT:=λc e h=>(a c e h).bind uB
noncomputable def s9(a b:MT):MT:=λc e h=>(a c e h).bind λx h1=>if x=true then b c e h1 else .ok false h1
noncomputable def Iv(a b:MT):MT:=λc e h=>(a c e h).bind λx h1=>if x=true then .ok true h1 else b c e h1
noncomputable def AA(a:MT):MT:=λc e h=>(a c e h).bind λx h1=> .ok (!x) h1
noncomputable def aP:MT:=λ_ _ h=> .ok true h
noncomputable def ah:MA:=λ_ _ h=> .ok [] h
noncomputable def ab(a:ME)(r:MA):MA:=λc e h=>(a c e h).bind λx h1=>(r c e h1).bind λxs h2=> .ok (x::xs) h2
noncomputable def mn(n:Nat)(r:RV α):RV α :=if n<=sizeLine then r else .no
noncomputable def au(r:MA):ME:=λc e h=>(r c e h).bind λxs h1=>mn xs.length (.ok (.tup xs) h1)
noncomputable def bN(r:MA):ME:=λc e h=>(r c e h).bind λxs h1=>mn xs.length (.ok (.ref h1.length) (h1++[.lst xs]))
noncomputable def ag(f:String)(r:MA):ME:=λc e h=>(r c e h).bind λxs h1=>c f xs h1
noncomputable def eB(f:List PV->PH->RV PV)(r:MA):ME:=λc e h=>(r c e h).bind f
noncomputable def eM(f:PV->List PV->PH->RV PV)(ty:PV->PH->Bool)(a:ME)(r:MA):ME:=λc e h=>(a c e h).bind λx h1=>if ty x h1=true then(r c e h1).bind λxs h2=>f x xs h2 else .no
noncomputable def sO(f g:PV->PV->PH->RV PV)(a b d:ME):ME:=λc e h=>(a c e h).bind λx h1=>(b c e h1).bind λy h2=>((f x y h2).bind uB).bind λk h3=>if k=true then(d c e h3).bind λz h4=>g y z h4 else .ok (.bl false) h3
theorem kE{n:Nat}{r:RV α}{a: α}{h:PH}:mn n r= .ok a h↔n<=sizeLine/\r= .ok a h:=by
 unfold mn;split
 . exact⟨λe=>⟨by assumption,e⟩,λe=>e.2⟩
 . exact⟨λe=>(nomatch e),λe=>absurd e.1 (by assumption)⟩
theorem oZ{v:PV}{h h':PH}{b:Bool}:uB v h= .ok b h'↔v= .bl b/\h'=h:=by
 cases v<;>simp[uB,eq_comm]
section
variable{X:Cx}{pg:Tb}{k:Nat}{a b c d e:Expr}{es:List Expr}{ma mb mc md:ME}{mr:MA}{mt mt':MT}{pos p pos' apos cpos:Pos}{x:Str}
theorem NW(i:Nat){x:Str}{pos:Pos}(hN:X.N[i]?=some x:=by rfl)(hv:N7 X.env.scope x:=by first | exact abl rfl | exact aah (abl rfl) | exact aah (aah rfl))(hd:(x == ("__debug__" :Str))=false:=by decide)
  (hcd:(x == ("__classdict__" :Str))=false:=by decide):JE X pg k (.Name x pos) (aa i):=⟨λA=>⟨_,qv i hN hv hd hcd,fun ρ h H e σ Q v h' s r q P=>by
 unfold aa at q;split at q
 . cases q;obtain⟨v',e1,e2⟩:=r.get i v (by assumption);exact⟨v',e1,P v' ρ H (.refl _ _) s e2⟩
 . exact nomatch q⟩⟩
theorem zG{cf:CF}{K:Ud}{v:PV}{v':V}(hr: ∀ ρ H,rel K ρ H v v'):SE cf K (tC v') (eC v):=fun ρ h H e σ Q w h' s r q P=>by cases q;exact P v' ρ H (.refl _ _) s (hr ρ H)
theorem MY{n:Int}{j:Nat}:JE X pg k (.Constant (.int n) j pos) (eC (.int n)):=⟨λA=>⟨_,LA,zG fun ρ H=>by rw[rel]⟩⟩
theorem OG{n:Bool}{j:Nat}:JE X pg k (.Constant (.bool n) j pos) (eC (.bl n)):=⟨λA=>⟨_,Q9,zG fun ρ H=>by rw[rel]⟩⟩
theorem Kt{j:Nat}:JE X pg k (.Constant .none j pos) (eC .non):=⟨λA=>⟨_,NM,zG fun ρ H=>by rw[rel]⟩⟩
theorem Lb{n:Str}{j:Nat}:JE X pg k (.Constant (.str n) j pos) (eC (.str n)):=⟨λA=>⟨_,Mh,zG fun ρ H=>by rw[rel]⟩⟩
theorem NK{v:PV}(hc:pg.con x=some v)(hg:Gl X x)(hd:(x == ("__debug__" :Str))=false:=by decide):JE X pg k (.Name x pos) (eC v):=⟨λA=>let ⟨u,v',e1,e2,_,e3⟩:=A.con x v hc;⟨_,zD hg e1 e2 hd,zG e3⟩⟩
theorem vL{T:String}(hg:Gl X x)(hb:x∈jA)(hv:VA x=some (.type T))(hn:x≠ "__name__" :=by decide)(hd:(x == ("__debug__" :Str))=false:=by decide):JE X pg k (.Name x pos) (eC (.ty T)) :=
 ⟨λA=>⟨_,Gw (v:= .ty T) hg (A.blt x hb) hv rfl hn hd,zG fun ρ H=>by rw[rel]⟩⟩
theorem yU{cf:CF}{K:Ud}{r:R2}{f:PV->PV->PH->RV PV}{ta tb:TE}(ho:nH K r f)(ha:SE cf K ta ma)(hb:SE cf K tb mb):SE cf K (HK r ta tb) (ai f ma mb):=fun ρ h H e σ Q v h' s r q P=>by
 obtain⟨x,h1,e1,q⟩:=bind_eq.mp q;obtain⟨y,h2,e2,q⟩:=bind_eq.mp q;refine ha ρ h H e σ _ x h1 s r e1 λx' ρ1 H1 g1 s1 r1=>?_;refine hb ρ1 h1 H1 e σ _ y h2 s1 (r.gr g1) e2 λy' ρ2 H2 g2 s2 r2=>?_;exact ho ρ2 h2 H2 x y x' y' Q v h' s2 (rel.gr g2 _ _ r1) r2 q (P.gr (g1.trans g2))
theorem OA{op:Operator}{f:PV->PV->PH->RV PV}(ho:dm X pg k-> ∃ r,dw X (VD op) r/\nH X.K r f)(ha:JE X pg k a ma)(hb:JE X pg k b mb):JE X pg k (.BinOp a op b pos) (ai f ma mb):=⟨λA =>
 let ⟨_,q1,s1⟩:=ha.h A;let ⟨_,q2,s2⟩:=hb.h A;let ⟨_,q,s⟩:=ho A;⟨_,Og q q1 q2,yU s s1 s2⟩⟩
theorem BZ{op:CmpOp}{f:PV->PV->PH->RV PV}(ho:dm X pg k-> ∃ r,dw X (UY op) r/\nH X.K r f)(ha:JE X pg k a ma)(hb:JE X pg k b mb)(hm:VH op b=false):JE X pg k (.Compare a [op] [b] pos) (ai f ma mb):=⟨λA =>
 let ⟨_,q1,s1⟩:=ha.h A;let ⟨_,q2,s2⟩:=hb.h A;let ⟨_,q,s⟩:=ho A;⟨_,Fv q q1 q2 hm,yU s s1 s2⟩⟩
theorem tq{cf:CF}{K:Ud}{ta:TE}(ha:SE cf K ta ma):ST cf K (CZ ta) (aM ma):=fun ρ h H e σ Q v h' s r q P=>by
 obtain⟨x,h1,e1,q⟩:=bind_eq.mp q;obtain⟨rfl,rfl⟩:=oZ.mp q;refine ha ρ h H e σ _ _ _ s r e1 λx' ρ1 H1 g1 s1 r1=>?_;rw[rel] at r1;exact⟨v,r1,P ρ1 H1 g1 s1⟩
theorem BK{op:CmpOp}{f:PV->PV->PH->RV PV}(ho:dm X pg k-> ∃ r,dw X (UY op) r/\nH X.K r f)(ha:JE X pg k a ma)(hb:JE X pg k b mb)(hm:VH op b=false):JT X pg k (.Compare a [op] [b] pos) (aM (ai f ma mb)):=⟨λA =>
 let ⟨_,q1,s1⟩:=ha.h A;let ⟨_,q2,s2⟩:=hb.h A;let ⟨_,q,s⟩:=ho A;⟨_,Gf q q1 q2 hm,tq (yU s s1 s2)⟩⟩
theorem MV(ha:JE X pg k e ma)(he: ∀ whole,abe e X.env whole=(do let v <- whole;abF e.pos;Yq [v] (truthy v)):=by intro _;rfl):JT X pg k e (aM ma):=⟨λA =>
 let ⟨_,q1,s1⟩:=ha.h A;⟨_,NC q1 he,tq s1⟩⟩
theorem NV(ha:JE X pg k a ma):JE X pg k (.UnaryOp .Not a pos) (Gz ma):=⟨λA =>
 let ⟨_,q1,s1⟩:=ha.h A;⟨_,Mx q1,fun ρ h H e σ Q v h' s r q P=>by
  obtain⟨x,h2,q2,q⟩:=bind_eq.mp q;obtain⟨y,h1,e1,q2⟩:=bind_eq.mp q2;obtain⟨rfl,rfl⟩:=oZ.mp q2;cases q;refine s1 ρ h H e σ _ _ _ s r e1 λx' ρ1 H1 g1 z1 r1=>?_;rw[rel] at r1;exact⟨x,r1,P _ ρ1 H1 g1 z1 (by rw[rel])⟩⟩⟩
theorem K8{op:BoolOp}(h:JE X pg k a ma):JE X pg k (.BoolOp op [a] pos) ma:=⟨λA=>let ⟨_,q1,s1⟩:=h.h A;⟨_,J6 q1,s1⟩⟩
theorem Kk{rest:List Expr}(ha:JE X pg k a ma)(hb:JE X pg k (.BoolOp .And (b::rest) pos) mb):JE X pg k (.BoolOp .And (a::b::rest) pos) (B6 ma mb):=⟨λA =>
 let ⟨_,q1,s1⟩:=ha.h A;let ⟨_,q2,s2⟩:=hb.h A;⟨_,MJ q1 q2,fun ρ h H e σ Q v h' s r q P=>by
  obtain⟨x,h2,q2,q⟩:=bind_eq.mp q;obtain⟨y,h1,e1,q2⟩:=bind_eq.mp q2;obtain⟨rfl,rfl⟩:=oZ.mp q2;refine s1 ρ h H e σ _ _ _ s r e1 λx' ρ1 H1 g1 z1 r1=>?_;rw[rel] at r1;refine⟨x,r1,?_⟩;cases x with
  | true=>exact s2 ρ1 _ H1 e σ _ _ _ z1 (r.gr g1) q (P.gr g1)
  | false=>cases q;exact P _ ρ1 H1 g1 z1 (by rw[rel])⟩⟩
theorem Pc{rest:List Expr}(ha:JE X pg k a ma)(hb:JE X pg k (.BoolOp .Or (b::rest) pos) mb):JE X pg k (.BoolOp .Or (a::b::rest) pos) (PL ma mb):=⟨λA =>
 let ⟨_,q1,s1⟩:=ha.h A;let ⟨_,q2,s2⟩:=hb.h A;⟨_,Oe q1 q2,fun ρ h H e σ Q v h' s r q P=>by
  obtain⟨x,h2,q2,q⟩:=bind_eq.mp q;obtain⟨y,h1,e1,q2⟩:=bind_eq.mp q2;obtain⟨rfl,rfl⟩:=oZ.mp q2;refine s1 ρ h H e σ _ _ _ s r e1 λx' ρ1 H1 g1 z1 r1=>?_;rw[rel] at r1;refine⟨x,r1,?_⟩;cases x with
  | false=>exact s2 ρ1 _ H1 e σ _ _ _ z1 (r.gr g1) q (P.gr g1)
  | true=>cases q;exact P _ ρ1 H1 g1 z1 (by rw[rel])⟩⟩
theorem CP(hc:JT X pg k c mt)(ha:JE X pg k a ma)(hb:JE X pg k b mb):JE X pg k (.IfExp c a b pos) (uz mt ma mb):=⟨λA =>
 let ⟨_,q0,s0⟩:=hc.h A;let ⟨_,q1,s1⟩:=ha.h A;let ⟨_,q2,s2⟩:=hb.h A;⟨_,Dm q0 q1 q2,fun ρ h H e σ Q v h' s r q P=>by
  obtain⟨x,h1,e1,q⟩:=bind_eq.mp q;refine s0 ρ h H e σ _ _ _ s r e1 fun ρ1 H1 g1 z1=>?_;cases x with
  | true=>exact s1 ρ1 _ H1 e σ _ _ _ z1 (r.gr g1) q (P.gr g1)
  | false=>exact s2 ρ1 _ H1 e σ _ _ _ z1 (r.gr g1) q (P.gr g1)⟩⟩
theorem HS(ha:JT X pg k a mt):JW X pg k (.BoolOp .And [a] pos) mt:=⟨λA=>let ⟨_,q1,s1⟩:=ha.h A;⟨_,Hn q1,s1⟩⟩
theorem MF(ha:JT X pg k a mt):JW X pg k (.BoolOp .Or [a] pos) mt:=⟨λA=>let ⟨_,q1,s1⟩:=ha.h A;⟨_,Mf q1,s1⟩⟩
theorem Cw{rest:List Expr}(ha:JT X pg k a mt)(hb:JW X pg k (.BoolOp .And (b::rest) pos) mt'):JW X pg k (.BoolOp .And (a::b::rest) pos) (s9 mt mt'):=⟨λA =>
 let ⟨_,q1,s1⟩:=ha.h A;let ⟨_,q2,s2⟩:=hb.h A;⟨_,KN q1 q2,fun ρ h H e σ Q v h' s r q P=>by
  obtain⟨x,h1,e1,q⟩:=bind_eq.mp q;refine s1 ρ h H e σ _ _ _ s r e1 fun ρ1 H1 g1 z1=>?_;cases x with
  | true=>exact s2 ρ1 _ H1 e σ _ _ _ z1 (r.gr g1) q (P.gr g1)
  | false=>cases q;exact P ρ1 H1 g1 z1⟩⟩
theorem IV{rest:List Expr}(ha:JT X pg k a mt)(hb:JW X pg k (.BoolOp .Or (b::rest) pos) mt'):JW X pg k (.BoolOp .Or (a::b::rest) pos) (Iv mt mt'):=⟨λA =>
 let ⟨_,q1,s1⟩:=ha.h A;let ⟨_,q2,s2⟩:=hb.h A;⟨_,OC q1 q2,fun ρ h H e σ Q v h' s r q P=>by
  obtain⟨x,h1,e1,q⟩:=bind_eq.mp q;refine s1 ρ h H e σ _ _ _ s r e1 fun ρ1 H1 g1 z1=>?_;cases x with
  | false=>exact s2 ρ1 _ H1 e σ _ _ _ z1 (r.gr g1) q (P.gr g1)
  | true=>cases q;exact P ρ1 H1 g1 z1⟩⟩
theorem JW.pt(h:JW X pg k e mt):JT X pg k e mt:=⟨λA=>let ⟨_,q1,s1⟩:=h.h A;⟨_,q1.pt,s1⟩⟩
theorem Mv(ha:JT X pg k a mt):JT X pg k (.UnaryOp .Not a pos) (AA mt):=⟨λA=>let ⟨_,q1,s1⟩:=ha.h A;⟨_,Jr q1,fun ρ h H e σ Q v h' s r q P=>by
  obtain⟨x,h1,e1,q⟩:=bind_eq.mp q;cases q;exact s1 ρ h H e σ _ _ _ s r e1 fun ρ1 H1 g1 z1=>P ρ1 H1 g1 z1⟩⟩
theorem Kz:JF X pg k [] aP:=⟨λA=>⟨_,NF,fun ρ h H e σ Q v h' s r q P=>by cases q;exact P ρ H (.refl _ _) s⟩⟩
theorem Lr(h:JT X pg k c mt):JF X pg k [c] mt:=⟨λA=>let ⟨_,q1,s1⟩:=h.h A;⟨_,Ke q1,s1⟩⟩
theorem Nv:JA X pg k [] ah:=⟨λA=>⟨_,Eb,fun ρ h H e σ Q v h' s r q P=>by cases q;exact P [] ρ H (.refl _ _) s (aI.mpr rfl)⟩⟩
theorem Ho(ha:JE X pg k e ma)(hr:JA X pg k es mr)(hs:noStar e=true:=by rfl):JA X pg k (e::es) (ab ma mr):=⟨λA =>
 let ⟨_,q1,s1⟩:=ha.h A;let ⟨_,q2,s2⟩:=hr.h A;⟨_,qk q1 q2 hs,fun ρ h H e σ Q v h' s r q P=>by
  obtain⟨x,h1,e1,q⟩:=bind_eq.mp q;obtain⟨xs,h2,e2,q⟩:=bind_eq.mp q;cases q;refine s1 ρ h H e σ _ _ _ s r e1 λx' ρ1 H1 g1 z1 r1=>?_;refine s2 ρ1 h1 H1 e σ _ _ _ z1 (r.gr g1) e2 λus ρ2 H2 g2 z2 r2=>?_;exact P _ ρ2 H2 (g1.trans g2) z2 (aD.mpr ⟨x',us,rfl,rel.gr g2 _ _ r1,r2⟩)⟩⟩
theorem Lf{x1}(h:JA X pg k es mr):JE X pg k (.Tuple es x1 pos) (au mr):=⟨λA =>
 let ⟨_,q1,s1⟩:=h.h A;⟨_,J8 q1,fun ρ h H e σ Q v h' s r q P=>by
  obtain⟨xs,h1,e1,q⟩:=bind_eq.mp q;obtain⟨hl,q⟩:=kE.mp q;cases q;refine s1 ρ h H e σ _ _ _ s r e1 λus ρ1 H1 g1 z1 r1=>⟨by rw[<- r1.len];exact hl,λp hp=>?_⟩
  refine P _ ρ1 _ (g1.trans (Gr.Ak hp)) (z1.tup hp) ?_;rw[rel];exact⟨p,us,rfl,bz,av.gr (Gr.Ak hp) _ _ r1⟩⟩⟩
theorem d7{K:Ud}{ρ :List Addr}{h:PH}{H:Hp}{xs:List PV}{us:List V}{Q:VK}(s:dy K ρ h H)(r:av K ρ H xs us)(P:eE K ρ H (.ref h.length) (h++[.lst xs]) Q)(p:Addr)(hp:H p=none):Q (.ref p) (upd H p (.lst us)):=by
 refine P _ (ρ ++[p]) _ (Gr.new hp [p]) (s.new hp ⟨us,bz,av.gr (Gr.new hp [p]) _ _ r⟩) ?_;rw[rel];exact⟨p,by rw[<- s.len,UM (Uo _)];simp,rfl⟩
theorem Le(h:JA X pg k es mr):JE X pg k (.List es pos) (bN mr):=⟨λA =>
 let ⟨_,q1,s1⟩:=h.h A;⟨_,Kw q1,fun ρ h H e σ Q v h' s r q P=>by
  obtain⟨xs,h1,e1,q⟩:=bind_eq.mp q;obtain⟨hl,q⟩:=kE.mp q;cases q;exact s1 ρ h H e σ _ _ _ s r e1 λus ρ1 H1 g1 z1 r1=>⟨by rw[<- r1.len];exact hl,λp hp=>d7 z1 r1 (P.gr g1) p hp⟩⟩⟩
theorem E1{f:String}{d:Df}(hf:pg.fns f=some d)(hg:Gl X (UC f))(ha:JA X pg k (e::es) mr)(hdb:(UC f == ("__debug__" :Str))=false:=by decide)(he:noStar e=true:=by rfl)(hpl:es.all noStar=true:=by rfl) :
  JE X pg k (.Call (.Name (UC f) p) (e::es) [] pos) (ag f mr):=⟨λA =>
 let ⟨_,q1,s1⟩:=ha.h A;⟨_,qd (A.defs f d hf) A.room hg (Uo _) q1 hdb he hpl,fun ρ h H e σ Q v h' s r q P=>by
  obtain⟨xs,h1,e1,q⟩:=bind_eq.mp q;refine s1 ρ h H e σ _ _ _ s r e1 λus ρ1 H1 g1 z1 r1=>?_;rw[U3];exact⟨ρ1,h1,xs,v,h',z1,r1,q,P.gr g1⟩⟩⟩
theorem QL{cf:CF}{K:Ud}{r:List V->Hp->VK->Prop}{f:List PV->PH->RV PV}{ta:TA}(ho:Bw K r f)(ha:SA cf K ta mr):SE cf K (Lc r ta) (eB f mr):=fun ρ h H e σ Q v h' s r q P=>by
 obtain⟨xs,h1,e1,q⟩:=bind_eq.mp q;exact ha ρ h H e σ _ _ _ s r e1 λus ρ1 H1 g1 z1 r1=>ho ρ1 h1 H1 xs us Q v h' z1 r1 q (P.gr g1)
theorem HU{id:String}{f:List PV->PH->RV PV}(hc:dm X pg k-> ∃ r,aV X (.builtin id) r/\Bw X.K r f)(hg:Gl X x)(hb:x∈jA)(hv:VA x=some (.builtin id))(ha:JA X pg k (e::es) mr)
  (hn:x≠ "__name__" :=by decide) (hdb:(x == ("__debug__" :Str))=false:=by decide) (he:noStar e=true:=by rfl) (hpl:es.all noStar=true:=by rfl):JE X pg k (.Call (.Name x p) (e::es) [] pos) (eB f mr):=⟨λA =>
 let ⟨_,q1,s1⟩:=ha.h A;let ⟨_,q,s⟩:=hc A;⟨_,qB q hg (A.blt x hb) hv q1 hn hdb he hpl,QL s s1⟩⟩
theorem Gn{T:String}{f:List PV->PH->RV PV}(hc:dm X pg k-> ∃ r,aV X (.type T) r/\Bw X.K r f)(hg:Gl X x)(hb:x∈jA)(hv:VA x=some (.type T))(ha:JA X pg k (e::es) mr)
  (hn:x≠ "__name__" :=by decide) (hdb:(x == ("__debug__" :Str))=false:=by decide) (he:noStar e=true:=by rfl) (hpl:es.all noStar=true:=by rfl):JE X pg k (.Call (.Name x p) (e::es) [] pos) (eB f mr):=⟨λA =>
 let ⟨_,q1,s1⟩:=ha.h A;let ⟨_,q,s⟩:=hc A;⟨_,qT q hg (A.blt x hb) hv q1 hn hdb he hpl,QL s s1⟩⟩
theorem Ni{name:Str}{id T:String}{f:PV->List PV->PH->RV PV}{ty:PV->PH->Bool}(pa:aaQ T)(slot:Slot T name id)(hty:typeOf (.builtin id)=pure (.type "method_descriptor"))(hm:dm X pg k-> ∃ r,Jg X id r/\RD X.K T r f ty)
  (ho:JE X pg k d md) (ha:JA X pg k [e] mr) (hbase:WJ d name X.env (eval d X.env)=eval d X.env:=by rfl) (hline:(apos.endLine == cpos.line)=true:=by rfl) (hs:noStar e=true:=by rfl) :
  JE X pg k (.Call (.Attribute d name apos) [e] [] cpos) (eM f ty md mr):=⟨λA =>
 let ⟨_,q0,s0⟩:=ho.h A;let ⟨_,q1,s1⟩:=ha.h A;let ⟨_,q,s⟩:=hm A;⟨_,Ir pa slot hty q q0 q1 hbase hline hs,fun ρ h H e σ Q v h' z r q P=>by
  obtain⟨x,h1,e1,q⟩:=bind_eq.mp q;refine s0 ρ h H e σ _ _ _ z r e1 λx' ρ1 H1 g1 z1 r1=>?_;split at q
  . rename_i ht;obtain⟨xs,h2,e2,q⟩:=bind_eq.mp q;refine⟨s.1 ρ1 h1 H1 x x' z1 r1 ht,?_⟩;exact s1 ρ1 h1 H1 e σ _ _ _ z1 (r.gr g1) e2 λus ρ2 H2 g2 z2 r2=>s.2 ρ2 h2 H2 x x' xs us Q v h' z2 (rel.gr g2 _ _ r1) r2 q (P.gr (g1.trans g2))
  . exact nomatch q⟩⟩
theorem Dd{cf:CF}{K:Ud}{r r':R2}{f g:PV->PV->PH->RV PV}{ta tb tc:TE}(ho:nH K r f)(ho':nH K r' g)(ha:SE cf K ta ma)(hb:SE cf K tb mb)(hc:SE cf K tc mc):SE cf K (wR r r' ta tb tc) (sO f g ma mb mc):=fun ρ h H e σ Q v h' s r q P=>by
 obtain⟨x,h1,e1,q⟩:=bind_eq.mp q;obtain⟨y,h2,e2,q⟩:=bind_eq.mp q;obtain⟨z,h3,e3,q⟩:=bind_eq.mp q;obtain⟨z0,h4,e4,e5⟩:=bind_eq.mp e3;obtain⟨rfl,rfl⟩:=oZ.mp e5;refine ha ρ h H e σ _ x h1 s r e1 λx' ρ1 H1 g1 s1 r1=>?_;refine hb ρ1 h1 H1 e σ _ y h2 s1 (r.gr g1) e2 λy' ρ2 H2 g2 s2 r2=>?_;refine ho ρ2 h2 H2 x y x' y' _ _ _ s2 (rel.gr g2 _ _ r1) r2 e4 λz' ρ3 H3 g3 s3 r3=>?_;rw[rel] at r3;refine⟨z,r3,?_⟩;cases z with
 | true =>
  obtain⟨w,h5,e5,q⟩:=bind_eq.mp q
  refine hc ρ3 _ H3 e σ _ w h5 s3 (r.gr ((g1.trans g2).trans g3)) e5 λw' ρ4 H4 g4 s4 r4=>?_
  exact ho' ρ4 h5 H4 y w y' w' Q v h' s4 (rel.gr (g3.trans g4) _ _ r2) r4 q (P.gr (((g1.trans g2).trans g3).trans g4))
 | false=>cases q;exact P _ ρ3 H3 ((g1.trans g2).trans g3) s3 (by rw[rel])
theorem Ey{op op':CmpOp}{f g:PV->PV->PH->RV PV}(ho:dm X pg k-> ∃ r,dw X (UY op) r/\nH X.K r f)(ho':dm X pg k-> ∃ r,dw X (UY op') r/\nH X.K r g)(ha:JE X pg k a ma)(hb:JE X pg k b mb)(hc:JE X pg k c mc)
  (hm:lastMarks [op,op'] [b,c]=false:=by with_unfolding_all rfl):JE X pg k (.Compare a [op,op'] [b,c] pos) (sO f g ma mb mc):=⟨λA =>
 let ⟨_,q1,s1⟩:=ha.h A;let ⟨_,q2,s2⟩:=hb.h A;let ⟨_,q3,s3⟩:=hc.h A;let ⟨_,q,s⟩:=ho A;let ⟨_,q',s'⟩:=ho' A;⟨_,Ds q q' q1 q2 q3 hm,Dd s s' s1 s2 s3⟩⟩
end
noncomputable def cP:MS:=λ_ e h=> .ok (.nx e) h
noncomputable def ae(a b:MS):MS:=λc e h=>(a c e h).bind λf h1=>match f with
 | .nx e1=>b c e1 h1
 | f=> .ok f h1
noncomputable def cX(a:ME):MS:=λc e h=>(a c e h).bind λ_ h1=> .ok (.nx e) h1
noncomputable def ay(a:ME):MS:=λc e h=>(a c e h).bind λv h1=> .ok (.rt v) h1
noncomputable def b6(t:MT)(a b:MS):MS:=λc e h=>(t c e h).bind λx h1=>if x=true then a c e h1 else b c e h1
noncomputable def qj:MS:=λ_ _ _=> .no
noncomputable def ak(a:ME)(g:MG):MS:=λc e h=>(a c e h).bind λv h1=>(g v e h1).bind λe1 h2=> .ok (.nx e1) h2
noncomputable def gN(i:Nat):MG:=λv e h=> .ok (e.set i (some v)) h
noncomputable def gT(n:Nat)(g:List PV->ao->PH->RV ao):MG:=λv e h=>match v.seq? with
 | some xs=>if xs.length=n then g xs e h else .no
 | none=> .no
noncomputable def eF:List PV->ao->PH->RV ao:=λvs e h=>match vs with
 | []=> .ok e h
 | _=> .no
noncomputable def aG(g:MG)(r:List PV->ao->PH->RV ao):List PV->ao->PH->RV ao:=λvs e h=>match vs with
 | []=> .no
 | v::t=>(g v e h).bind λe1 h1=>r t e1 h1
noncomputable def eJ(f:PV->PV->PV->PH->RV Unit)(o i a:ME):MS:=λc e h=>(a c e h).bind λv h1=>(o c e h1).bind λx h2=>(i c e h2).bind λy h3=>(f x y v h3).bind λ_ h4=> .ok (.nx e) h4
noncomputable def bJ(it:kQ)(step:PV->ao->PH->RV Fl):List PV->ao->PH->RV Fl
 | [],e,h=>if it.jt h=true then .ok (.nx e) h else .no
 | x::xs,e,h=>if it.jt h=true then(step x e h).bind (λf h1=>match f with
   | .nx e1=>bJ it step xs e1 h1
   | .ct e1=>bJ it step xs e1 h1
   | .bk e1=> .ok (.nx e1) h1
   | .rt v=> .ok (.rt v) h1) else .no
noncomputable def jv(i:MI)(g:MG)(b:MS):MS:=λc e h=>(i c e h).bind λit h1=>bJ it (λx e h=>(g x e h).bind λe1 h1=>b c e1 h1) it.items e h1
noncomputable def dE(t:ao->PH->RV Bool)(b:ao->PH->RV Fl):Nat->ao->PH->RV Fl
 | 0,_,_=> .no
 | n+1,e,h=>(t e h).bind λx h1=>if x=true then(b e h1).bind (λf h2=>match f with
   | .nx e1=>dE t b n e1 h2
   | .ct e1=>dE t b n e1 h2
   | .bk e1=> .ok (.nx e1) h2
   | .rt v=> .ok (.rt v) h2) else .ok (.nx e) h1
noncomputable def wQ(t:MT)(b:MS):MS:=λc e h=>dE (t c) (b c) 100000 e h
noncomputable def fH(it:kQ)(step:PV->PH->RV (Option PV)):List PV->List PV->PH->RV (List PV)
 | [],ys,h=>if it.jt h=true then .ok ys h else .no
 | x::xs,ys,h=>if it.jt h=true/\ys.length < sizeLine then(step x h).bind (λo h1=>match o with
   | some y=>fH it step xs (ys++[y]) h1
   | none=>fH it step xs ys h1) else .no
noncomputable def aQ(k:Nat)(g:MG)(t:MT)(a:ME)(c:CF)(e:ao)(x:PV)(h:PH):RV (Option PV):=(g x (e++Up k none) h).bind λe2 h2=>(t c e2 h2).bind λb h3=>if b=true then(a c e2 h3).bind (λy h4=> .ok (some y) h4) else .ok none h3
noncomputable def jT(k:Nat)(i:MI)(g:MG)(t:MT)(a:ME):ME:=λc e h=>(i c e h).bind λit h1=>(fH it (aQ k g t a c e) it.items [] h1).bind λys h2=> .ok (.ref h2.length) (h2++[.lst ys])
section
variable{X:Cx}{pg:Tb}{k:Nat}{a b c d e o i:Expr}{es:List Expr}{ma mb mc md mo mi:ME}{mr:MA}{mt mt':MT}{ms ms' mu:MS}{pos p pos' apos cpos spos:Pos}{x y:Str}{st:Stmt}{body rest:List Stmt}{g:MG}{mI:MI}{tg iter:Expr}{gs:List PV->ao->PH->RV ao}
theorem O2{c:CF}{K:Ud}:SS c K DL cP:=fun ρ h H e σ D f h' s r q P=>by cases q;exact P σ ρ H (.refl _ _) s r
theorem Mt{c:CF}{K:Ud}{t u:TS}(h1:SS c K t ms)(h2:SS c K u mu):SS c K (Lv t u) (ae ms mu):=fun ρ h H e σ D f h' s r q P=>by
 obtain⟨f1,h1',e1,q⟩:=bind_eq.mp q;refine h1 ρ h H e σ _ f1 h1' s r e1 ?_;cases f1 with
 | nx e'=>exact fun σ1 ρ1 H1 g1 s1 r1=>h2 ρ1 h1' H1 e' σ1 D f h' s1 r1 q (P.gr g1)
 | rt v=>cases q;exact P
 | bk e'=>cases q;exact P
 | ct e'=>cases q;exact P
theorem He:yF X pg k [] cP:=⟨λA=>⟨_,HA,O2⟩⟩
theorem GD(h:JS X pg k st ms):yF X pg k [st] ms:=⟨λA=>let ⟨_,q,s⟩:=h.h A;⟨_,Ge q,s⟩⟩
theorem DR(h1:JS X pg k st ms)(h2:yF X pg k rest mu):yF X pg k (st::rest) (ae ms mu):=⟨λA=>let ⟨_,q1,s1⟩:=h1.h A;let ⟨_,q2,s2⟩:=h2.h A;⟨_,Dk q1 q2,Mt s1 s2⟩⟩
theorem F9(ha:JE X pg k e ma)(hs:W4 e none pos.line X.env=pure false:=by rfl):JS X pg k (.Expr e pos) (cX ma):=⟨λA=>let ⟨_,q1,s1⟩:=ha.h A;⟨_,HW q1 hs,fun ρ h H e σ D f h' s r q P=>by
 obtain⟨x,h1,e1,q⟩:=bind_eq.mp q;cases q;exact s1 ρ h H e σ _ x _ s r e1 λx' ρ1 H1 g1 z1 r1=>P σ ρ1 H1 g1 z1 (r.gr g1)⟩⟩
theorem K7(ha:JE X pg k e ma):JS X pg k (.Return (some e) pos) (ay ma):=⟨λA=>let ⟨_,q1,s1⟩:=ha.h A;⟨_,Ky q1,fun ρ h H e σ D f h' s r q P=>by
 obtain⟨x,h1,e1,q⟩:=bind_eq.mp q;cases q;exact s1 ρ h H e σ _ x _ s r e1 P⟩⟩
theorem Oo{A B:List Stmt}(hc:JT X pg k c mt)(ha:yF X pg k A ms)(hb:yF X pg k B mu):JS X pg k (.If c A B pos) (b6 mt ms mu):=⟨λZ =>
 let ⟨_,q0,s0⟩:=hc.h Z;let ⟨_,q1,s1⟩:=ha.h Z;let ⟨_,q2,s2⟩:=hb.h Z;⟨_,PN q0 q1 q2,fun ρ h H e σ D f h' s r q P=>by
  obtain⟨x,h1,e1,q⟩:=bind_eq.mp q;refine s0 ρ h H e σ _ _ _ s r e1 fun ρ1 H1 g1 z1=>?_;cases x with
  | true=>exact s1 ρ1 _ H1 e σ _ _ _ z1 (r.gr g1) q (P.gr g1)
  | false=>exact s2 ρ1 _ H1 e σ _ _ _ z1 (r.gr g1) q (P.gr g1)⟩⟩
theorem Ei:JS X pg k st qj:=⟨λA=>⟨_,⟨Ee⟩,fun ρ h H e σ D f h' s r q P=>nomatch q⟩⟩
theorem zp{K:Ud}{i:Nat}:SG K (eA i) (gN i):=fun ρ h H e σ Q v v' e' h' s r rv q P=>by cases q;exact P _ ρ H (.refl _ _) s (r.set i rv)
theorem F2{i:Nat}(hN:X.N.Nodup)(hi:X.N[i]?=some x)(hx:Loc X.env.scope x)(hf:X.fn x=true\/X.env.scope.names.lookup x=some .local:=by first | exact .inl rfl | exact .inr rfl | assumption):JG X pg k (.Name x pos) (gN i):=⟨λA=>⟨_,yT hN hi hx hf,zp⟩⟩
structure PR(X:Cx)(pg:Tb)(k:Nat)(e:List Expr)(m:List PV->ao->PH->RV ao):Prop where
 h:dm X pg k-> ∃ t,Mm X e t/\ ∀ ρ h H e σ Q vs us e' h',dy X.K ρ h H->ef X.K ρ H e σ ->av X.K ρ H vs us->m vs e h= .ok e' h'->gx X.K ρ H e' h' Q->t us σ H Q
theorem Hu:PR X pg k [] eF:=⟨λA=>⟨_,zw,fun ρ h H e σ Q vs us e' h' s r rv q P=>by
 cases vs with
 | nil=>cases q;rw[aI] at rv;exact⟨rv,P σ ρ H (.refl _ _) s r⟩
 | cons=>exact nomatch q⟩⟩
theorem Ed(h1:JG X pg k e g)(h2:PR X pg k es gs)(hs:(Vv (e::es) X.env).map (·.2)=XJ e X.env::(Vv es X.env).map (·.2):=by rfl):PR X pg k (e::es) (aG g gs):=⟨λA =>
 let ⟨_,q1,s1⟩:=h1.h A;let ⟨_,q2,s2⟩:=h2.h A;⟨_,vf q1 q2 hs,fun ρ h H e σ Q vs us e' h' s r rv q P=>by
 cases vs with
 | nil=>exact nomatch q
 | cons v t =>
  obtain⟨w,u,rfl,r1,r2⟩:=aD.mp rv
  obtain⟨e1,h1,e2,q⟩:=bind_eq.mp q
  refine⟨w,u,rfl,?_⟩
  exact s1 ρ h H e σ _ v w e1 h1 s r r1 e2 fun σ1 ρ1 H1 g1 z1 y1=>s2 ρ1 h1 H1 e1 σ1 Q t u e' h' z1 y1 (av.gr g1 _ _ r2) q (P.gr g1)⟩⟩
theorem ND{j:Nat}{n:Nat}(h:PR X pg k es gs)(hn:(Vv es X.env).length=n:=by rfl)(hst:(Vv es X.env).findIdx? (·.1)=none:=by rfl):JG X pg k (.Tuple es j pos) (gT n gs):=⟨λA =>
 let ⟨_,q1,s1⟩:=h.h A;⟨_,Es A.calm q1 hn hst,fun ρ h H e σ Q v v' e' h' s r rv q P=>by
 unfold gT at q
 split at q
 . rename_i xs ex;obtain⟨a,vs,rfl,z,rr⟩:=rel.seq ex rv;split at q
   . rename_i hl;exact⟨a,vs,rfl,z,by rw[<- rr.len];exact hl,s1 ρ h H e σ Q xs vs e' h' s r rr q P⟩
   . exact nomatch q
 . exact nomatch q⟩⟩
theorem Ls{j:Nat}(hN:X.N.Nodup)(hi:X.N[j]?=some x)(hx:Loc X.env.scope x)(he:JE X pg k e ma)(hs:W4 e (some (.Name x pos')) pos.line X.env=pure false:=by rfl)(hf:X.fn x=true\/X.env.scope.names.lookup x=some .local:=by first | exact .inl rfl | exact .inr rfl | assumption) :
  JS X pg k (.Assign [.Name x pos'] e pos) (ak ma (gN j)):=⟨λA=>let ⟨_,q1,s1⟩:=he.h A;⟨_,Jo hN hi hx q1 hs hf,fun ρ h H e σ D f h' s r q P=>by
 obtain⟨v,h1,e1,q⟩:=bind_eq.mp q;obtain⟨e2,h2,e3,q⟩:=bind_eq.mp q;cases q;cases e3;exact s1 ρ h H e σ _ v _ s r e1 λv' ρ1 H1 g1 z1 r1=>P _ ρ1 H1 g1 z1 ((r.gr g1).set j r1)⟩⟩
theorem JM(he:JE X pg k e ma)(hg:JG X pg k tg g)(hs:Y8 [tg] e pos.line X.env=pure false:=by rfl)(hw:Y9 [tg] e X.env=pure none:=by rfl)(h1:(Vv [tg] X.env).map (·.2)=[XJ tg X.env]:=by rfl) :
  JS X pg k (.Assign [tg] e pos) (ak ma g):=⟨λA=>let ⟨_,q1,s1⟩:=he.h A;let ⟨_,q2,s2⟩:=hg.h A;⟨_,CJ q1 q2 hs hw h1,fun ρ h H e σ D f h' s r q P=>by
 obtain⟨v,h1,e1,q⟩:=bind_eq.mp q;obtain⟨e2,h2,e3,q⟩:=bind_eq.mp q;cases q;exact s1 ρ h H e σ _ v h1 s r e1 λv' ρ1 H1 g1 z1 r1=>s2 ρ1 h1 H1 e σ _ v v' e2 _ z1 (r.gr g1) r1 e3 (gx.gr P g1)⟩⟩
theorem Ng{f:PV->PV->PV->PH->RV Unit}(hp:dm X pg k-> ∃ t,qY X t/\ ∀ ρ h H x y v x' y' v' u h' Q,dy X.K ρ h H->rel X.K ρ H x x'->rel X.K ρ H y y'->rel X.K ρ H v v'->f x y v h= .ok u h'->nL X.K ρ H h' Q->t x' y' v' H Q)
  (ho:JE X pg k o mo) (hi:JE X pg k i mi) (hv:JE X pg k e ma) (hs:Y8 [.Subscript o i pos'] e pos.line X.env=pure false:=by rfl) (hw:Y9 [.Subscript o i pos'] e X.env=pure none:=by rfl) (h1:(Vv [.Subscript o i pos'] X.env).map (·.2)=[XJ (.Subscript o i pos') X.env]:=by rfl)
  (ha: ∀ v,XJ (.Subscript o i pos') X.env v=(do
   let ov <- Yq [v] (eval o X.env)
   let iv <- Yq [v,ov] (eval i X.env)
   abF pos'
   Yq [v,ov,iv] (setItem ov iv v)
   release [v,ov,iv] []):=by intro _;rfl):JS X pg k (.Assign [.Subscript o i pos'] e pos) (eJ f mo mi ma):=⟨λA =>
 let ⟨_,q0,s0⟩:=hv.h A;let ⟨_,q1,s1⟩:=ho.h A;let ⟨_,q2,s2⟩:=hi.h A;let ⟨_,q3,s3⟩:=hp A;⟨_,CJ q0 ⟨Ma q1.h q2.h q3 ha⟩ hs hw h1,fun ρ h H e σ D f' h' s r q P=>by
 obtain⟨v,h1,e1,q⟩:=bind_eq.mp q
 obtain⟨x,h2,e2,q⟩:=bind_eq.mp q
 obtain⟨y,h3,e3,q⟩:=bind_eq.mp q
 obtain⟨u,h4,e4,q⟩:=bind_eq.mp q
 cases q
 refine s0 ρ h H e σ _ v h1 s r e1 λv' ρ1 H1 g1 z1 r1=>?_
 refine s1 ρ1 h1 H1 e σ _ x h2 z1 (r.gr g1) e2 λx' ρ2 H2 g2 z2 r2=>?_
 refine s2 ρ2 h2 H2 e σ _ y h3 z2 (r.gr (g1.trans g2)) e3 λy' ρ3 H3 g3 z3 r3=>?_
 have g:=(g1.trans g2).trans g3
 exact s3 ρ3 h3 H3 x y v x' y' v' u _ _ z3 (rel.gr g3 _ _ r2) r3 (rel.gr (g2.trans g3) _ _ r1) e4 fun ρ4 H4 g4 z4=>P σ ρ4 H4 (g.trans g4) z4 (r.gr (g.trans g4))⟩⟩
theorem J5(hi:JI X pg k tg iter mI)(hg:JG X pg k tg g)(hb:yF X pg k body ms)(hp:Zm (model X.prog X.w) X.A X.env X.xe)(hs: ∀ x,U9 iter X.env x=pure x:=by intro _;rfl):JS X pg k (.For tg iter body [] pos) (jv mI g ms):=⟨λA =>
 let ⟨_,q1,s1⟩:=hi.h A;let ⟨_,q2,s2⟩:=hg.h A;let ⟨_,q3,s3⟩:=hb.h A;⟨_,JN hp A.calm q1 q2 q3 hs,fun ρ h H e σ D f h' s r q P=>by
 obtain ⟨it,h1,e1,q⟩:=bind_eq.mp q
 refine s1 ρ h H e σ _ it h1 s r e1 fun ρ1 H1 J g1 z1 w1=>?_
 let step:PV->ao->PH->RV Fl:=λx e h=>(g x e h).bind λe1 h1=>ms (run pg k) e1 h1
 refine ⟨λi m σ' H'=> ∃ ρ' h2 e',Gr ρ1 H1 ρ' H'∧dy X.K ρ' h2 H'∧ef X.K ρ' H' e' σ'∧i<=it.items.length∧m=it.items.length - i∧bJ it step (it.items.drop i) e' h2= .ok f h',⟨_, ρ1,h1,e,.refl _ _,z1,r.gr g1,Vd _,rfl,q⟩,?_⟩
 rintro i m σ2 H2 ⟨ρ2,h2,e2,g2,z2,r2,hi,rfl,q2⟩
 cases hx:it.items[i]? with
 | none =>
  have hl:it.items.length<=i:=VE.mp hx
  rw[VB hl,bJ] at q2
  split at q2
  . rename_i hf;cases q2;exact .inl ⟨(w1 i ρ2 _ H2 g2 z2 hf).2 (by omega),P σ2 ρ2 H2 (g1.trans g2) z2 r2⟩
  . exact nomatch q2
 | some x =>
  have hlt:i < it.items.length:=(Uh.mp hx).1
  have hd:it.items.drop i=x::it.items.drop (i+1):=by
   rw[Xl hlt,(Uh.mp hx).2]
  rw[hd,bJ] at q2
  split at q2
  . rename_i hf;obtain⟨go,yl⟩:=(w1 i ρ2 _ H2 g2 z2 hf).1 x hx;obtain⟨f3,h3,e3,q3⟩:=bind_eq.mp q2;obtain ⟨e4,h4,e5,q4⟩:=bind_eq.mp e3;refine .inr ⟨go,fun σ' H'=> ∃ ρ' h2 e',Gr ρ1 H1 ρ' H'∧dy X.K ρ' h2 H'∧ef X.K ρ' H' e' σ'∧bJ it step (it.items.drop (i+1)) e' h2= .ok f h',?_,?_⟩
    . rintro σ' H' ⟨ρ',h2,e',a1,a2,a3,a4⟩;exact ⟨it.items.length - (i+1),by omega, ρ',h2,e',a1,a2,a3,hlt,rfl,a4⟩
    . intro v H3 hy;obtain ⟨ρ3,g3,z3,r3⟩:=yl v H3 hy;refine s2 ρ3 h2 H3 e2 σ2 _ x v e4 h4 z3 (r2.gr g3) r3 e5 fun σ4 ρ4 H4 g4 z4 r4=>?_;have gg:=(g2.trans g3).trans g4;refine s3 ρ4 h4 H4 e4 σ4 _ f3 h3 z4 r4 q4 ?_;cases f3 with
      | nx e6=>exact fun σ5 ρ5 H5 g5 z5 r5=>⟨ρ5,h3,e6,gg.trans g5,z5,r5,q3⟩
      | ct e6=>exact fun σ5 ρ5 H5 g5 z5 r5=>⟨ρ5,h3,e6,gg.trans g5,z5,r5,q3⟩
      | bk e6=>cases q3;exact gx.gr P (g1.trans gg)
      | rt v=>cases q3;exact eE.gr P (g1.trans gg)
  . exact nomatch q2⟩⟩
theorem DZ (hc:JT X pg k c mt) (hb:yF X pg k body ms) (hp:Zm (model X.prog X.w) X.A X.env X.xe):JS X pg k (.While c body [] pos) (wQ mt ms):=⟨λA =>
 let ⟨_,q1,s1⟩:=hc.h A;let ⟨_,q2,s2⟩:=hb.h A;⟨_,Eo hp q1 q2,fun ρ h H e σ D f h' s r q P=>by
 refine ⟨λm σ' H'=> ∃ ρ' h2 e',Gr ρ H ρ' H'∧dy X.K ρ' h2 H'∧ef X.K ρ' H' e' σ'∧dE (mt (run pg k)) (ms (run pg k)) m e' h2= .ok f h',⟨100000, ρ,h,e,.refl _ _,s,r,q⟩,?_⟩
 rintro m σ1 H1 ⟨ρ1,h1,e1,g1,z1,r1,q1⟩
 cases m with
 | zero=>exact nomatch q1
 | succ m =>
  obtain⟨x,h2,e2,q1⟩:=bind_eq.mp q1
  refine s1 ρ1 h1 H1 e1 σ1 _ x h2 z1 r1 e2 fun ρ2 H2 g2 z2=>?_
  cases x with
  | false=>cases q1;exact P σ1 ρ2 H2 (g1.trans g2) z2 (r1.gr g2)
  | true =>
   obtain⟨f3,h3,e3,q3⟩:=bind_eq.mp q1
   refine⟨fun σ' H'=> ∃ ρ' h2 e',Gr ρ H ρ' H'/\dy X.K ρ' h2 H'/\ef X.K ρ' H' e' σ'/\dE (mt (run pg k)) (ms (run pg k)) m e' h2= .ok f h',fun σ' H' w=>⟨m,X3 _,w⟩,?_⟩
   refine s2 ρ2 h2 H2 e1 σ1 _ f3 h3 z2 (r1.gr g2) e3 ?_
   have gg:=g1.trans g2
   cases f3 with
   | nx e6=>exact fun σ5 ρ5 H5 g5 z5 r5=>⟨ρ5,h3,e6,gg.trans g5,z5,r5,q3⟩
   | ct e6=>exact fun σ5 ρ5 H5 g5 z5 r5=>⟨ρ5,h3,e6,gg.trans g5,z5,r5,q3⟩
   | bk e6=>cases q3;exact gx.gr P gg
   | rt v=>cases q3;exact eE.gr P gg⟩⟩
theorem Iq{cf:CF}{K:Ud}{wi:TI}{tg:TG}{tt:TT}{te:TE}{n:Nat}(s1:SI cf K wi mI)(s2:SG K tg g)(s3:ST cf K tt mt)(s4:SE cf K te ma):SE cf K (RE n wi tg tt te) (jT n mI g mt ma):=fun ρ h H e σ Q v h' s r q P=>by
 obtain⟨it,h1,e1,q⟩:=bind_eq.mp q;obtain ⟨ys,h2,e2,q⟩:=bind_eq.mp q;cases q;refine s1 ρ h H e σ _ it h1 s r e1 fun ρ1 H1 J g1 z1 w1=>?_;refine ⟨λi m us H'=> ∃ ρ' h3 zs,Gr ρ1 H1 ρ' H'∧dy K ρ' h3 H'∧av K ρ' H' zs us∧i<=it.items.length∧m=it.items.length - i∧fH it (aQ n g mt ma cf e) (it.items.drop i) zs h3= .ok ys h2,⟨_, ρ1,h1,[],.refl _ _,z1,aI.mpr rfl,Vd _,rfl,e2⟩,?_⟩;rintro i m us H2 ⟨ρ2,h3,zs,g2,z2,r2,hi,rfl,q2⟩;cases hx:it.items[i]? with
 | none =>
  have hl:it.items.length<=i:=VE.mp hx
  rw[VB hl,fH] at q2
  split at q2
  . rename_i hf;cases q2;exact .inl ⟨(w1 i ρ2 _ H2 g2 z2 hf).2 (by omega),λp hp=>d7 z2 r2 (P.gr (g1.trans g2)) p hp⟩
  . exact nomatch q2
 | some x =>
  have hlt:i < it.items.length:=(Uh.mp hx).1
  have hd:it.items.drop i=x::it.items.drop (i+1):=by
   rw[Xl hlt,(Uh.mp hx).2]
  rw[hd,fH] at q2
  split at q2
  . rename_i hf;obtain⟨go,yl⟩:=(w1 i ρ2 _ H2 g2 z2 hf.1).1 x hx;obtain⟨o,h4,e3,q3⟩:=bind_eq.mp q2;obtain⟨e4,h5,e5,q4⟩:=bind_eq.mp e3;obtain⟨b,h6,e6,q5⟩:=bind_eq.mp q4;refine .inr ⟨go,by rw[<- r2.len];exact hf.2,λv H3 hy=>?_⟩;obtain⟨ρ3,g3,z3,r3⟩:=yl v H3 hy;refine s2 ρ3 h3 H3 _ _ _ x v e4 h5 z3 (((r.gr (g1.trans (g2.trans g3)))).more n) r3 e5 fun σ4 ρ4 H4 g4 z4 r4=>?_;refine s3 ρ4 h5 H4 e4 σ4 _ b h6 z4 r4 e6 fun ρ5 H5 g5 z5=>?_;have gg:=((g2.trans g3).trans g4).trans g5;cases b with
    | false=>cases q5;exact ⟨it.items.length - (i+1),by omega, ρ5,_,zs,gg,z5,av.gr ((g3.trans g4).trans g5) _ _ r2,hlt,rfl,q3⟩
    | true =>
     obtain ⟨y,h7,e7,q6⟩:=bind_eq.mp q5
     cases q6
     refine s4 ρ5 h6 H5 e4 σ4 _ y _ z5 (r4.gr g5) e7 λy' ρ6 H6 g6 z6 r6=>?_
     exact ⟨it.items.length - (i+1),by omega, ρ6,_,zs++[y],gg.trans g6,z6,(av.gr (((g3.trans g4).trans g5).trans g6) _ _ r2).app (av.one r6),hlt,rfl,q3⟩
  . exact nomatch q2
end
noncomputable def S8 (c:CF) (K:Ud) (m:ME):TE:=fun σ H Q=> ∃ ρ h e v h',dy K ρ h H∧ef K ρ H e σ ∧m c e h= .ok v h'∧eE K ρ H v h' Q
noncomputable def Tr(c:CF)(K:Ud)(m:MT):TT:=fun σ H Q=> ∃ ρ h e b h',dy K ρ h H/\ef K ρ H e σ /\m c e h= .ok b h'/\nL K ρ H h' (Q b)
theorem Jc{c:CF}{K:Ud}{m:ME}:SE c K (S8 c K m) m:=fun ρ h H e σ Q v h' s r q P=>⟨ρ,h,e,v,h',s,r,q,P⟩
theorem Ji{c:CF}{K:Ud}{m:MT}:ST c K (Tr c K m) m:=fun ρ h H e σ Q v h' s r q P=>⟨ρ,h,e,v,h',s,r,q,P⟩
theorem JE.IK{X:Cx}{pg:Tb}{k:Nat}{e:Expr}{m:ME}(j:JE X pg k e m)(A:dm X pg k):QE X e (S8 (run pg k) X.K m) :=
 let ⟨_,q,s⟩:=j.h A;⟨λpins st σ H Q I ⟨ρ,h,e,v,h',a,b,c,d⟩=>q.h pins st σ H Q I (s ρ h H e σ Q v h' a b c d)⟩
theorem JF.IK{X:Cx}{pg:Tb}{k:Nat}{e:List Expr}{m:MT}(j:JF X pg k e m)(A:dm X pg k):QF X e (Tr (run pg k) X.K m) :=
 let ⟨_,q,s⟩:=j.h A;⟨λpins st σ H Q I ⟨ρ,h,e,v,h',a,b,c,d⟩=>q.h pins st σ H Q I (s ρ h H e σ Q v h' a b c d)⟩
structure GC(K:Ud)(n:Nat)(t:TG)(m:MG):Prop where
 sg:SG K t m
 gk:GK n t
 mono:sV t
structure RI(K:Ud)(n:Nat)(t:uA)(m:List PV->ao->PH->RV ao):Prop where
 sg: ∀ ρ h H e σ Q vs us e' h',dy K ρ h H->ef K ρ H e σ ->av K ρ H vs us->m vs e h= .ok e' h'->gx K ρ H e' h' Q->t us σ H Q
 gk:Oz n t
 mono: ∀ xs σ H Q Q',(∀ σ2 H2,Q σ2 H2->Q' σ2 H2)->t xs σ H Q->t xs σ H Q'
theorem HZ{K:Ud}{n i:Nat}(h:n<=i):GC K n (eA i) (gN i):=⟨zp,HQ h,yp⟩
theorem um{K:Ud}{n:Nat}:RI K n yt eF:=⟨fun ρ h H e σ Q vs us e' h' s r rv q P=>by
 cases vs with
 | nil=>cases q;rw[aI] at rv;exact⟨rv,P σ ρ H (.refl _ _) s r⟩
 | cons=>exact(nomatch q),KJ,λxs σ H Q Q' f q=>⟨q.1,f _ _ q.2⟩⟩
theorem gz{K:Ud}{n:Nat}{t:TG}{m:MG}{ts:uA}{ms:List PV->ao->PH->RV ao}(a:GC K n t m)(b:RI K n ts ms):RI K n (jB t ts) (aG m ms):=⟨fun ρ h H e σ Q vs us e' h' s r rv q P=>by
 cases vs with
 | nil=>exact nomatch q
 | cons v t =>
  obtain⟨w,u,rfl,r1,r2⟩:=aD.mp rv
  obtain⟨e1,h1,e2,q⟩:=bind_eq.mp q
  refine⟨w,u,rfl,?_⟩
  exact a.sg ρ h H e σ _ v w e1 h1 s r r1 e2 fun σ1 ρ1 H1 g1 z1 y1=>b.sg ρ1 h1 H1 e1 σ1 Q t u e' h' z1 y1 (av.gr g1 _ _ r2) q (P.gr g1),G5 a.gk a.mono b.gk,
 λxs σ H Q Q' f ⟨v,r,e,q⟩=>⟨v,r,e,a.mono _ _ _ _ _ (fun σ2 H2 z=>b.mono _ _ _ _ _ f z) q⟩⟩
theorem w9{K:Ud}{n j:Nat}{ts:uA}{ms:List PV->ao->PH->RV ao}(b:RI K n ts ms):GC K n (wb K j ts) (gT j ms):=⟨fun ρ h H e σ Q v v' e' h' s r rv q P=>by
 unfold gT at q;split at q
 . rename_i xs ex;obtain⟨a,vs,rfl,z,rr⟩:=rel.seq ex rv;split at q
   . rename_i hl;exact⟨a,vs,rfl,z,by rw[<- rr.len];exact hl,b.sg ρ h H e σ Q xs vs e' h' s r rr q P⟩
   . exact nomatch q
 . exact(nomatch q),NP b.gk,λx σ H Q Q' f ⟨a,xs,e1,e2,e3,q⟩=>⟨a,xs,e1,e2,e3,b.mono _ _ _ _ _ f q⟩⟩
section
variable{X:Cx}{pg:Tb}{k:Nat}{e tg iter:Expr}{ma:ME}{mt:MT}{g:MG}{tG:TG}{mI:MI}{scope:Scope}{ifs:List Expr}{pos spos py:Pos}{y:Str}
theorem pV(vars:List Str)(hkind:scope.kind= .function)(hlc:iO scope.names X.env.scope.names X.N vars=true)(hi:JI X pg k tg iter mI)
  (hb: ∀ cl C s₀ H₀ ex pn,(dm X pg k->QG (fk X vars scope cl C s₀ H₀ ex pn) tg tG)/\JF (fk X vars scope cl C s₀ H₀ ex pn) pg k ifs mt/\JE (fk X vars scope cl C s₀ H₀ ex pn) pg k e ma) (hG:GC X.K X.N.length tG g)
  (hs: ∀ x,U9 iter X.env x=pure x:=by intro _;rfl):JE X pg k (.ListComp e [⟨tg,iter,ifs,0⟩] scope pos) (jT vars.length mI g mt ma):=⟨λA =>
 let ⟨_,q1,s1⟩:=hi.h A
 ⟨_,DY vars A.calm A.qy hkind hlc q1 (λcl C s₀ H₀ ex pn=>let ⟨h1,h2,h3⟩:=hb cl C s₀ H₀ ex pn;⟨h1 A,h2.IK (A.fk ..),h3.IK (A.fk ..)⟩) hG.gk hs,Iq s1 hG.sg Ji Jc⟩⟩
theorem wx(vars:List Str)(i:Nat)(hkind:scope.kind= .function)(hlc:iO scope.names X.env.scope.names X.N vars=true)(hN:X.N.Nodup)(hiy:X.N[i]?=some y)(hy:Loc X.env.scope y)(hi:JI X pg k tg iter mI)
  (hb: ∀ cl C s₀ H₀ ex pn,(dm X pg k->QG (fk X vars scope cl C s₀ H₀ ex pn) tg tG)/\JF (fk X vars scope cl C s₀ H₀ ex pn) pg k ifs mt/\JE (fk X vars scope cl C s₀ H₀ ex pn) pg k e ma) (hG:GC X.K X.N.length tG g)
  (hsw:W4 (.ListComp e [⟨tg,iter,ifs,0⟩] scope pos) (some (.Name y py)) spos.line X.env=pure true:=by rfl) (hs: ∀ x,U9 iter X.env x=pure x:=by intro _;rfl)
  (hf:X.fn y=true\/X.env.scope.names.lookup y=some .local:=by first | exact .inl rfl | exact .inr rfl | assumption) :
  JS X pg k (.Assign [.Name y py] (.ListComp e [⟨tg,iter,ifs,0⟩] scope pos) spos) (ak (jT vars.length mI g mt ma) (gN i)):=⟨λA =>
 let ⟨_,q1,s1⟩:=hi.h A
 ⟨_,BY vars i A.calm A.qy hkind hlc hN hiy hy q1 (λcl C s₀ H₀ ex pn=>let ⟨h1,h2,h3⟩:=hb cl C s₀ H₀ ex pn;⟨h1 A,h2.IK (A.fk ..),h3.IK (A.fk ..)⟩) hG.gk hsw hs hf,fun ρ h H e σ D f h' s r q P=>by
  obtain⟨v,h1,e1,q⟩:=bind_eq.mp q;obtain⟨e2,h2,e3,q⟩:=bind_eq.mp q;cases q;cases e3;exact Iq s1 hG.sg Ji Jc ρ h H e σ _ v _ s r e1 λv' ρ1 H1 g1 z1 r1=>P _ ρ1 H1 g1 z1 ((r.gr g1).set i r1)⟩⟩
end
section
variable{K:Ud}{ρ ρ':List Addr}{H H':Hp}{h h':PH}
mutual
theorem rel.flat: ∀(x:PV)(v:V),x.flat=true->rel K ρ' H' x v->rel K ρ H' x v
 | .non,v,_,h=>by simpa only[rel] using h
 | .bl _,v,_,h=>by simpa only[rel] using h
 | .int _,v,_,h=>by simpa only[rel] using h
 | .str _,v,_,h=>by simpa only[rel] using h
 | .ty _,v,_,h=>by simpa only[rel] using h
 | .ref n,v,f,h=>by simp[PV.flat] at f
 | .tup xs,v,f,h=>by
  rw[rel] at h ⊢;rw[PV.flat] at f;obtain⟨a,vs,e,s,r⟩:=h;exact⟨a,vs,e,s,av.flat xs vs f r⟩
 | .ktup xs,v,f,h=>by
  rw[rel] at h ⊢;rw[PV.flat] at f;obtain⟨a,vs,e,s,r⟩:=h;exact⟨a,vs,e,s,av.flat xs vs f r⟩
theorem av.flat: ∀(xs:List PV)(vs:List V),PV.bF xs=true->av K ρ' H' xs vs->av K ρ H' xs vs
 | [],vs,_,h=>by simpa only[av] using h
 | x::r,vs,f,h=>by
  rw[av] at h ⊢;rw[PV.bF,UD] at f;obtain⟨v,t,e,h1,h2⟩:=h;exact ⟨v,t,e,rel.flat x v f.1 h1,av.flat r t f.2 h2⟩
end
mutual
theorem rel.iU (g: ∀ (n:Nat) (a:Addr), ρ[n]?=some a-> ρ'[n]?=some a): ∀ (x:PV) (v:V),x.iU ρ.length=true->rel K ρ' H' x v->rel K ρ H' x v
 | .non,v,_,h=>by simpa only [rel] using h
 | .bl _,v,_,h=>by simpa only [rel] using h
 | .int _,v,_,h=>by simpa only [rel] using h
 | .str _,v,_,h=>by simpa only[rel] using h
 | .ty _,v,_,h=>by simpa only[rel] using h
 | .ref n,v,f,h=>by
  rw[rel] at h ⊢;rw[PV.iU,decide_eq_true_eq] at f;obtain⟨a,e,h⟩:=h;have:=g n _ (Ur f);rw[e] at this;exact⟨a,by rw[Ur f,<- Vg this],h⟩
 | .tup xs,v,f,h=>by
  rw[rel] at h ⊢;rw[PV.iU] at f;obtain⟨a,vs,e,s,r⟩:=h;exact⟨a,vs,e,s,av.iU g xs vs f r⟩
 | .ktup xs,v,f,h=>by
  rw[rel] at h ⊢;rw [PV.iU] at f;obtain ⟨a,vs,e,s,r⟩:=h;exact ⟨a,vs,e,s,av.iU g xs vs f r⟩
theorem av.iU (g: ∀ (n:Nat) (a:Addr), ρ[n]?=some a-> ρ'[n]?=some a): ∀ (xs:List PV) (vs:List V),PV.jc ρ.length xs=true->av K ρ' H' xs vs->av K ρ H' xs vs
 | [],vs,_,h=>by simpa only [av] using h
 | x::r,vs,f,h=>by
  rw [av] at h ⊢;rw[PV.jc,UD] at f;obtain⟨v,t,e,h1,h2⟩:=h;exact⟨v,t,e,rel.iU g x v f.1 h1,av.iU g r t f.2 h2⟩
end
mutual
theorem rel.low: ∀(x:PV)(v:V),rel K ρ H x v->x.iU ρ.length=true
 | .non,v,_=>rfl
 | .bl _,v,_=>rfl
 | .int _,v,_=>rfl
 | .str _,v,_=>rfl
 | .ty _,v,_=>rfl
 | .ref n,v,h=>by
  rw[rel] at h;obtain⟨a,e,h⟩:=h;rw[PV.iU,decide_eq_true_eq];exact(Uh.mp e).1
 | .tup xs,v,h=>by
  rw[rel] at h;obtain⟨a,vs,e,s,r⟩:=h;rw[PV.iU];exact av.low xs vs r
 | .ktup xs,v,h=>by
  rw[rel] at h;obtain⟨a,vs,e,s,r⟩:=h;rw[PV.iU];exact av.low xs vs r
theorem av.low: ∀(xs:List PV)(vs:List V),av K ρ H xs vs->PV.jc ρ.length xs=true
 | [],vs,_=>rfl
 | x::r,vs,h=>by
  rw[av] at h;obtain⟨v,t,e,h1,h2⟩:=h;rw[PV.jc,rel.low x v h1,av.low r t h2];rfl
end
theorem Paired.low: ∀{kvs:List (Key × PV)}{kws:List (Key × V)},Vt (λ(p:Key × PV) (q:Key × V)=>p.1=q.1/\rel K ρ H p.2 q.2) kvs kws->PV.jc ρ.length (kvs.map (·.2))=true
 | _,_,.nil=>rfl
 | _,_,.cons r t=>by rw[Ul,PV.jc,rel.low _ _ r.2,Paired.low t];rfl
theorem m4.low{a:Addr}: ∀{o:PO},m4 K ρ H a o->o.iU ρ.length=true
 | .lst xs,⟨vs,_,r⟩=>av.low _ _ r
 | .kR xs,⟨vs,_,r⟩=>av.low _ _ r
 | .dct kvs,⟨kws,_,r⟩=>Paired.low r
theorem Paired.iU (g: ∀ (n:Nat) (a:Addr), ρ[n]?=some a-> ρ'[n]?=some a): ∀ {kvs:List (Key × PV)} {kws:List (Key × V)},PV.jc ρ.length (kvs.map (·.2))=true ->
  Vt (λ(p:Key × PV) (q:Key × V)=>p.1=q.1∧rel K ρ' H' p.2 q.2) kvs kws->Vt (λ(p:Key × PV) (q:Key × V)=>p.1=q.1∧rel K ρ H' p.2 q.2) kvs kws
 | _,_,_,.nil=> .nil
 | _,_,f,.cons r t=>by
  rw [Ul,PV.jc,UD] at f;exact .cons ⟨r.1,rel.iU g _ _ f.1 r.2⟩ (Paired.iU g f.2 t)
theorem m4.iU (g: ∀ (n:Nat) (a:Addr), ρ[n]?=some a-> ρ'[n]?=some a) {a:Addr}: ∀ {o:PO},o.iU ρ.length=true->m4 K ρ' H' a o->m4 K ρ H' a o
 | .lst xs,f,⟨vs,e,r⟩=>⟨vs,e,av.iU g _ _ f r⟩
 | .kR xs,f,⟨vs,e,r⟩=>⟨vs,e,av.iU g _ _ f r⟩
 | .dct kvs,f,⟨kws,e,r⟩=>⟨kws,e,Paired.iU g f r⟩
theorem dy.drop(s:dy K ρ h H)(g:Gr ρ H ρ' H')(s':dy K ρ' h' H')(ok:cx h.length h h'=true):dy K ρ (h'.take h.length) H':=by
 have old: ∀{i:Nat}{o:PO},(h'.take h.length)[i]?=some o->i < h.length/\h'[i]?=some o:=λ{i o} e=>by
  have hi:i < h.length:=by
   have:=(Uh.mp e).1;rw[Vo] at this;omega
  rw[List.getElem?_take,if_pos hi] at e;exact⟨hi,e⟩
 refine⟨by rw[Vo,s.len,Xy (px ok)],λi j a oi oj ei ej mi mj ri rj=>?_,λi o a e ea=>?_⟩
 . exact s'.nd i j a oi oj (old ei).2 (old ej).2 mi mj (g.pre _ _ ri) (g.pre _ _ rj)
 . have r:=s'.ob i o a (old e).2 (g.pre _ _ ea);obtain⟨o0,e0,_,z⟩:=sd ok e;refine m4.iU g.pre ?_ r;rcases z with z | z
   . subst z;exact(s.ob i o0 a e0 ea).low
   . rw[s.len];exact z
theorem gG{v w:PV}{h2:PH}{Q:VK}(s:dy K ρ h H)(e:settle h v h'= .ok w h2)(P:eE K ρ H w h2 Q):eE K ρ H v h' Q:=by
 unfold settle at e;split at e
 . rename_i ok;rw[UD] at ok;cases e;exact λv' ρ' H' g s' r=>P v' ρ H' ⟨λ_ _ z=>z,g.tup,g.kI⟩ (s.drop g s' ok.2) (rel.flat _ _ ok.1 r)
 . cases e;exact P
end
theorem iL{K:Ud}{ρ :List Addr}{H:Hp}: ∀{args:List PV}{vs:List V},av K ρ H args vs-> ∀(n:Nat),ef K ρ H (args.map some++Up n none) (vs.map some++Up n none)
 | args,vs,r,n=>by
  have:ef K ρ H (args.map some) (vs.map some):=⟨by simp[r.len],λi v e=>by
   rw[UA] at e;cases q:args[i]? with
   | none=>rw[q] at e;exact nomatch e
   | some w =>
    rw[q] at e
    cases e
    obtain⟨v',e1,e2⟩:=r.get q
    exact⟨v',by rw[UA,e1];rfl,e2⟩⟩
  exact this.more n
structure jP(P:UN)(w:World)(K:Ud)(mg:Str->Option Value)(base:Heap)(pg:Tb)(f:String)(d:Df):Prop where
 ex: ∃(st:Stmt)(N:List Str),At K mg (UC f) st/\d9 N d.ps (ax st)/\N.length=d.ps.length+d.nl /\
  (∀(kV doc pm:Value)(an:Option Addr)(cdv ct:Value)(us:List Value),us.length=d.ps.length->WV (Vu (UC f) (UC f) (cJ st) (bq st) (ax st) .none kV doc pm an cdv ct) ⟨us,[]⟩=pure (d.ps.zip us)) /\
  ∀(fa:Addr)(cdv:Value)(A:U6)(outer:List Env)(s:Uj)(H:Hp)(E:XK)(k:Nat),yF (j5 ue P w K mg base N (UC f) (ax st) fa cdv A outer s H E).qy pg k (bq st) d.body
structure Top(P:UN)(w:World)(K:Ud)(mg:Str->Option Value)(pg:Tb):Prop where
 blt: ∀ x∈jA,mg x=none
 con: ∀ x v,pg.con x=some v-> ∃ u v',mg x=some u/\RelV v' u/\Ae K v'/\ ∀ ρ H,rel K ρ H v v'
 yP: ∀ x kvs,pg.yP x=some kvs-> ∃ a kws,mg x=some (.ref a)∧KD P w K a kws∧ ∀ ρ H,Vt (λ(p:Key × PV) (q:Key × V)=>p.1=q.1∧rel K ρ H p.2 q.2) kvs kws
section
variable {P:UN} {w:World} {K:Ud} {mg:Str->Option Value} {base:Heap} {pg:Tb}
theorem CL (T : Top P w K mg pg) (G : ∀ f d, pg.fns f = some d -> jP P w K mg base pg f d) : ∀ k f d, pg.fns f = some d -> nG P w K mg base (UC f) k d.ps (xD K pg k f) := by
  intro k
  induction k with
  | zero =>
    intro f d hf
    obtain ⟨st, N, a, S, hl, hb, body⟩ := (G f d hf).ex
    exact At.zI a hb λvs H Q E ⟨ρ, h, args, v, h', _, _, q, _⟩ => nomatch q
  | succ k ih =>
    intro f d hf
    obtain ⟨st, N, a, S, hl, hb, body⟩ := (G f d hf).ex
    have run_eq : ∀ {args : List PV} {h h' : PH} {v : PV}, run pg (k + 1) f args h = .ok v h' -> args.length = d.ps.length ∧
        ((∃ w h2, d.body (run pg k) (args.map some ++ Up d.nl none) h = .ok (.rt w) h2 /\ settle h w h2 = .ok v h') ∨
         (∃ e h2, d.body (run pg k) (args.map some ++ Up d.nl none) h = .ok (.nx e) h2 /\ settle h .non h2 = .ok v h')) := λ{args h h' v} q => by
      rw [run, hf] at q;simp only at q;split at q
      . rename_i hn;refine ⟨hn, ?_⟩;split at q
        . rename_i w h2 e; exact .inl ⟨w, h2, e, q⟩
        . rename_i e' h2 e; exact .inr ⟨e', h2, e, q⟩
        . exact nomatch q
        . exact nomatch q
        . exact nomatch q
      . exact nomatch q
    refine At.SW a S hb (λvs H Q E ⟨ρ, h, args, v, h', _, r, q, _⟩ => by rw [<- r.len]; exact (run_eq q).1) ?_
    rintro fa cdv A outer s H vs Q E hr ⟨ρ, h, args, v, h', sm, r, q, post⟩
    have amb : dm (j5 ue P w K mg base N (UC f) (ax st) fa cdv A outer s H E).qy pg k := ⟨hr, rfl, λ_ _ z => z, ih, T.blt, T.con, T.yP⟩
    obtain ⟨t, qt, st'⟩ := (body fa cdv A outer s H E k).h amb
    refine ⟨t, qt, ?_⟩
    obtain ⟨hn, q⟩ := run_eq q
    have he : L2.start N vs = vs.map some ++ Up d.nl none := by
      unfold L2.start;rw [hl, <- r.len, hn, Zy]
    rw [he]
    rcases q with ⟨w, h2, e, q⟩ | ⟨e', h2, e, q⟩
    . exact st' ρ h H _ _ _ _ h2 sm (iL r _) e (gG sm q post)
    . exact st' ρ h H _ _ _ _ h2 sm (iL r _) e fun σ' ρ' H' g s' _ => gG sm q post .non ρ' H' g s' (by rw [rel])
end
noncomputable def p2(f:Int->Int->RV PV):PV->PV->PH->RV PV:=λx y h=>match x,y with
 | .int i,.int j=>(f i j).bind λv _=> .ok v h
 | _,_=> .no
noncomputable def EL(v:PV):RV PV:= .ok v []
section
variable{K:Ud}{X:Cx}{pg:Tb}{k:Nat}
theorem LO{C:Int->Int->Prop}{g:Int->Int->V}{f:Int->Int->RV PV}(hf: ∀ i j v h,f i j= .ok v h->C i j/\ ∀ ρ H,rel K ρ H v (g i j)):nH K (rI C g) (p2 f):=fun ρ h H x y x' y' Q v h' s rx ry q P=>by
 unfold p2 at q;split at q
 . rename_i i j;rw[rel] at rx ry;obtain⟨w,h0,e,q⟩:=bind_eq.mp q;cases q;obtain⟨hc,hr⟩:=hf i j v h0 e;exact⟨i,j,rx,ry,hc,P _ ρ H (.refl _ _) s (hr ρ H)⟩
 . exact nomatch q
theorem vP{g:Int->Int->V}{f:Int->Int->RV PV}(hf: ∀ i j v h,f i j= .ok v h-> ∀ ρ H,rel K ρ H v (g i j)):nH K (EG g) (p2 f):=fun ρ h H x y x' y' Q v h' s rx ry q P=>by
 unfold p2 at q;split at q
 . rename_i i j;rw[rel] at rx ry;obtain⟨w,h0,e,q⟩:=bind_eq.mp q;cases q;exact⟨i,j,rx,ry,P _ ρ H (.refl _ _) s (hf i j v h0 e ρ H)⟩
 . exact nomatch q
noncomputable def qZ:PV->PV->PH->RV PV:=p2 λi j=>EL (.int (i - j))
noncomputable def fh:PV->PV->PH->RV PV:=p2 λi j=>if 0 < j then EL (.int (i % j)) else .no
noncomputable def ql:PV->PV->PH->RV PV:=p2 λi j=>if 0 < j/\j < 1073741824 then EL (.int (i / j)) else .no
noncomputable def Gb:PV->PV->PH->RV PV:=p2 λi j=>if 0<=j/\j<=1000000/\i.natAbs < 2 ^ 64 then EL (.int (i ^ j.toNat)) else .no
noncomputable def D6:PV->PV->PH->RV PV:=p2 λi j=>EL (.bl (decide (i < j)))
noncomputable def RH:PV->PV->PH->RV PV:=p2 λi j=>EL (.bl (decide (i<=j)))
noncomputable def Pu:PV->PV->PH->RV PV:=p2 λi j=>EL (.bl (decide (j < i)))
noncomputable def Sr:PV->PV->PH->RV PV:=p2 λi j=>EL (.bl (decide (j<=i)))
theorem Qz:dm X pg k-> ∃ r,dw X (VD .Sub) r/\nH X.K r qZ:=λ_=>⟨_,KU,vP λi j v h e ρ H=>by cases e;rw[rel]⟩
theorem Qk:dm X pg k-> ∃ r,dw X (VD .Mod) r/\nH X.K r fh:=λ_=>⟨_,Nd,LO λi j v h e=>by
 split at e
 . cases e;exact⟨by assumption,fun ρ H=>by rw[rel]⟩
 . exact nomatch e⟩
theorem Jy:dm X pg k-> ∃ r,dw X (VD .FloorDiv) r/\nH X.K r ql:=λ_=>⟨_,GP,LO λi j v h e=>by
 split at e
 . cases e;exact⟨by assumption,fun ρ H=>by rw[rel]⟩
 . exact nomatch e⟩
theorem Rb:dm X pg k-> ∃ r,dw X (VD .Pow) r/\nH X.K r Gb:=λ_=>⟨_,MX,LO λi j v h e=>by
 split at e
 . cases e;exact⟨by assumption,fun ρ H=>by rw[rel]⟩
 . exact nomatch e⟩
theorem Sa:dm X pg k-> ∃ r,dw X (UY .Lt) r/\nH X.K r D6:=λ_=>⟨_,Q5,vP λi j v h e ρ H=>by cases e;rw[rel]⟩
theorem Sk:dm X pg k-> ∃ r,dw X (UY .LtE) r/\nH X.K r RH:=λ_=>⟨_,OJ,vP λi j v h e ρ H=>by cases e;rw[rel]⟩
theorem Sg:dm X pg k-> ∃ r,dw X (UY .Gt) r/\nH X.K r Pu:=λ_=>⟨_,Qi,vP λi j v h e ρ H=>by cases e;rw[rel]⟩
theorem Sz:dm X pg k-> ∃ r,dw X (UY .GtE) r/\nH X.K r Sr:=λ_=>⟨_,Pt,vP λi j v h e ρ H=>by cases e;rw[rel]⟩
noncomputable def QU(xs:List PV)(h:PH):RV PV:=mn xs.length (.ok (.ref h.length) (h++[.lst xs]))
noncomputable def bf:PV->PV->PH->RV PV:=λx y h=>match x,y with
 | .int i,.int j=> .ok (.int (i+j)) h
 | .str a,.str b=>mn (a.length+b.length) (.ok (.str (a++b)) h)
 | .tup xs,.tup ys=>mn (xs.length+ys.length) (.ok (.tup (xs++ys)) h)
 | .ref n,.ref m=>(match h[n]?,h[m]? with
  | some (.lst xs),some (.lst ys)=>QU (xs++ys) h
  | _,_=> .no)
 | _,_=> .no
theorem dy.lst{ρ :List Addr}{h:PH}{H:Hp}(s:dy K ρ h H){n:Nat}{xs:List PV}(e:h[n]?=some (.lst xs)){v:V}(r:rel K ρ H (.ref n) v): ∃ a vs,v= .ref a/\ ρ[n]?=some a/\H a=some (.lst vs)/\av K ρ H xs vs:=by
 rw[rel] at r;obtain⟨a,ea,rfl⟩:=r;obtain⟨vs,e1,e2⟩:=s.ob n _ a e ea;exact⟨a,vs,rfl,ea,e1,e2⟩
theorem dy.kR{ρ :List Addr}{h:PH}{H:Hp}(s:dy K ρ h H){n:Nat}{xs:List PV}(e:h[n]?=some (.kR xs)){v:V}(r:rel K ρ H (.ref n) v): ∃ a vs,v= .ref a/\ ρ[n]?=some a/\iS K H a vs/\av K ρ H xs vs:=by
 rw[rel] at r;obtain⟨a,ea,rfl⟩:=r;obtain⟨vs,e1,e2⟩:=s.ob n _ a e ea;exact⟨a,vs,rfl,ea,e1.sq,e2⟩
noncomputable def cV(h:PH)(n:Nat):Option (List PV):=match h[n]? with
 | some (.lst xs)=>some xs
 | some (.kR xs)=>some xs
 | _=>none
theorem dy.sq{ρ :List Addr}{h:PH}{H:Hp}(s:dy K ρ h H){n:Nat}{xs:List PV}(e:cV h n=some xs){v:V}(r:rel K ρ H (.ref n) v): ∃ a vs,v= .ref a/\ ρ[n]?=some a/\iS K H a vs/\av K ρ H xs vs:=by
 unfold cV at e;split at e
 . cases e;obtain⟨a,vs,e1,e2,e3,e4⟩:=s.lst (by assumption) r;exact⟨a,vs,e1,e2,.of e3,e4⟩
 . cases e;exact s.kR (by assumption) r
 . exact nomatch e
theorem om{ρ :List Addr}{h:PH}{H:Hp}{xs:List PV}{us:List V}{Q:VK}(s:dy K ρ h H)(r:av K ρ H xs us)(P:eE K ρ H (.tup xs) h Q)(p:Addr)(hp:H p=none):Q (.ref p) (upd H p (.tup us)):=by
 refine P _ ρ _ (Gr.Ak hp) (s.tup hp) ?_;rw[rel];exact⟨p,us,rfl,bz,av.gr (Gr.Ak hp) _ _ r⟩
theorem P6:dm X pg k-> ∃ r,dw X (VD .Add) r/\nH X.K r bf:=λ_=>⟨_,Kv,fun ρ h H x y x' y' Q v h' s rx ry q P=>by
 unfold bf at q;split at q
 . cases q;rw[rel] at rx ry;exact .inl ⟨_,_,rx,ry,P _ ρ H (.refl _ _) s (by rw[rel])⟩
 . obtain⟨hl,q⟩:=kE.mp q;cases q;rw[rel] at rx ry;exact .inr (.inr (.inr (.inr ⟨_,_,rx,ry,hl,P _ ρ H (.refl _ _) s (by rw[rel])⟩)))
 . rename_i xs ys;obtain⟨hl,q⟩:=kE.mp q;cases q;have ry':=ry;rw[rel] at rx ry;obtain⟨a,us,e1,e2,e3⟩:=rx;obtain⟨b,ws,d1,d2,d3⟩:=ry;cases xs with
   | nil =>
    rw[aI] at e3;subst e3
    exact .inr (.inr (.inr (.inl ⟨a,b,ws,e1,d1,.of e2,.of d2,d1 ▸ P y' ρ H (.refl _ _) s ry'⟩)))
   | cons x r =>
    refine .inr (.inr (.inl ⟨a,b,us,ws,e1,d1,.of e2,.of d2,?_,by rw[<- e3.len,<- d3.len];exact hl,?_⟩))
    . rintro rfl;have:=e3.len;simp at this
    . refine⟨λz=>?_,λ_ p hp=>om s (e3.app d3) P p hp⟩;subst z;have:ys=[]:=Yf d3.len;subst this;rw[U3] at P;exact P _ ρ H (.refl _ _) s (by rw[rel];exact⟨a,us,rfl,e2,e3⟩)
 . split at q
   . rename_i h1 h2;unfold QU at q;obtain⟨hl,q⟩:=kE.mp q;cases q;obtain⟨a,us,rfl,_,e1,e2⟩:=s.lst h1 rx;obtain⟨b,ws,rfl,_,d1,d2⟩:=s.lst h2 ry;refine .inr (.inl ⟨a,b,us,ws,rfl,rfl,e1,d1,?_,λp hp=>d7 s (e2.app d2) P p hp⟩);rw[<- e2.len,<- d2.len];simpa using hl
   . exact nomatch q
 . exact nomatch q⟩
noncomputable def bT(kvs:List (Key × PV))(k:Key):Option PV:=(kvs.find? λkv=>decide (kv.1=k)).map (·.2)
noncomputable def cM(kvs:List (Key × PV))(k:Key)(v:PV):List (Key × PV) :=
 if (kvs.any λkv=>decide (kv.1=k))=true then kvs.map (λkv=>if kv.1=k then(kv.1,v) else kv) else kvs++[(k,v)]
noncomputable def iF:PV->Option Key
 | .int i=>some (.inl i)
 | .str x=>some (.inr x)
 | _=>none
theorem fN{ρ :List Addr}{H:Hp}{x:PV}{k:Key}{v:V}(e:iF x=some k)(r:rel K ρ H x v):v=kV k:=by
 cases x<;>simp only[iF,reduceCtorEq,W9] at e<;>(subst e;rw[rel] at r;exact r)
abbrev RK(K:Ud)(ρ :List Addr)(H:Hp)(kvs:List (Key × PV))(kws:List (Key × V)):Prop:=Vt (λ(p:Key × PV) (q:Key × V)=>p.1=q.1/\rel K ρ H p.2 q.2) kvs kws
theorem RK.val{ρ :List Addr}{H:Hp}: ∀{kvs:List (Key × PV)}{kws:List (Key × V)}(k:Key),RK K ρ H kvs kws->match bT kvs k,gX kws k with
  | some x,some v=>rel K ρ H x v
  | none,none=>True
  | _,_=>False
 | _,_,k,.nil=>trivial
 | _,_,k,.cons (a:=p) (b:=q) r t=>by
  have ih:=RK.val k t;unfold bT gX at ih ⊢;rw[Wc,Wc,<- r.1];by_cases e:p.1=k
  . simp only[e,decide_true,WB];exact r.2
  . simp only[e,decide_false];exact ih
theorem RK.some{ρ :List Addr}{H:Hp}{kvs:List (Key × PV)}{kws:List (Key × V)}{k:Key}{x:PV}(r:RK K ρ H kvs kws)(e:bT kvs k=some x): ∃ v,gX kws k=some v/\rel K ρ H x v:=by
 have:=RK.val k r;rw[e] at this;cases q:gX kws k with
 | none=>rw[q] at this;exact VR this
 | some v=>rw[q] at this;exact⟨v,rfl,this⟩
theorem RK.is{ρ :List Addr}{H:Hp}{kvs:List (Key × PV)}{kws:List (Key × V)}(k:Key)(r:RK K ρ H kvs kws):(gX kws k).isSome=(bT kvs k).isSome:=by
 have:=RK.val k r;cases p:bT kvs k<;>cases q:gX kws k<;>rw[p,q] at this<;>first | rfl | exact VR this
theorem RK.len{ρ :List Addr}{H:Hp}{kvs:List (Key × PV)}{kws:List (Key × V)}(r:RK K ρ H kvs kws):kvs.length=kws.length:=Xp r
theorem RK.any{ρ :List Addr}{H:Hp}: ∀{kvs:List (Key × PV)}{kws:List (Key × V)}(k:Key),RK K ρ H kvs kws->(kws.any λkv=>decide (kv.1=k))=kvs.any λkv=>decide (kv.1=k)
 | _,_,k,.nil=>rfl
 | _,_,k,.cons (a:=p) (b:=q) r t=>by rw[VJ,VJ,RK.any k t,r.1]
theorem RK.EB{ρ :List Addr}{H:Hp}{k:Key}{x:PV}{v:V}(h:rel K ρ H x v): ∀{kvs:List (Key × PV)}{kws:List (Key × V)},RK K ρ H kvs kws->RK K ρ H (kvs.map λkv=>if kv.1=k then(kv.1,x) else kv) (kws.map λkv=>if kv.1=k then(kv.1,v) else kv)
 | _,_,.nil=> .nil
 | _,_,.cons (a:=p) (b:=q) a t=> .cons (by
   show(if p.1=k then(p.1,x) else p).1=(if q.1=k then(q.1,v) else q).1/\rel K ρ H (if p.1=k then(p.1,x) else p).2 (if q.1=k then(q.1,v) else q).2;rw[<- a.1];split
   . exact⟨rfl,h⟩
   . exact a) (RK.EB h t)
theorem RK.snoc{ρ :List Addr}{H:Hp}{k:Key}{x:PV}{v:V}(h:rel K ρ H x v): ∀{kvs:List (Key × PV)}{kws:List (Key × V)},RK K ρ H kvs kws->RK K ρ H (kvs++[(k,x)]) (kws++[(k,v)])
 | _,_,.nil=> .cons ⟨rfl,h⟩ .nil
 | _,_,.cons a t=> .cons a (RK.snoc h t)
theorem RK.put{ρ :List Addr}{H:Hp}{kvs:List (Key × PV)}{kws:List (Key × V)}{k:Key}{x:PV}{v:V}(r:RK K ρ H kvs kws)(h:rel K ρ H x v):RK K ρ H (cM kvs k x) (putK kws k v):=by
 unfold cM putK;rw[RK.any k r];split
 . exact RK.EB h r
 . exact RK.snoc h r
noncomputable def aw:PV->PV->PH->RV PV:=λx y h=>match x with
 | .tup xs=>(match y with
  | .int i=>(match dS xs i with | some v=> .ok v h | none=> .no)
  | _=> .no)
 | .ktup xs=>(match y with
  | .int i=>(match dS xs i with | some v=> .ok v h | none=> .no)
  | _=> .no)
 | .str z=>(match y with
  | .int i=>mn z.length (match dS z.cps.toList i with | some c=> .ok (.str ⟨#[c]⟩) h | none=> .no)
  | _=> .no)
 | .ref n=>(match h[n]? with
  | some (.dct kvs)=>(match iF y with
   | some k=>(match bT kvs k with | some v=> .ok v h | none=> .no)
   | none=> .no)
  | some (.lst xs)=>(match y with
   | .int i=>(match dS xs i with | some v=> .ok v h | none=> .no)
   | _=> .no)
  | some (.kR xs)=>(match y with
   | .int i=>(match dS xs i with | some v=> .ok v h | none=> .no)
   | _=> .no)
  | none=> .no)
 | _=> .no
theorem av.at{ρ :List Addr}{H:Hp}{xs:List PV}{vs:List V}{i:Int}{x:PV}(r:av K ρ H xs vs)(e:dS xs i=some x): ∃ v,dS vs i=some v/\rel K ρ H x v:=by
 unfold dS at e ⊢;rw[<- r.len];cases q:qw xs.length i with
 | none=>rw[q] at e;exact nomatch e
 | some j =>
  rw [q] at e
  exact r.get e
noncomputable def TZ:R2:=λx y H Q=> ∃ a v,x= .ref a∧j6 H a y (some v)∧Q v H
theorem Ax (hu : X.A.units + 1 < cLine) : zU X TZ := by
  intro value slice pins s σ H x y v u Q I rx ry h hs;obtain ⟨a, w, rfl, g, q⟩ := h;obtain rfl : v = UJ a := rx;have hT : s.TypeIs (.ref a) "dict" := wm I g;unfold Zc;refine Ue ?_;rw [Z4 hT.not_modules];refine Ue (ZV hT YU.lookup ?_);have fin : wpAny (model X.prog X.w) X.A (YZ slice false (.ref a) u) (λr s₃ => wpAny (model X.prog X.w) X.A (letTemporaryGo value (.ref a) r >>= λ_ => pure r) (EP X pins σ Q) X.xe s₃) X.xe s := by
    rw [hs];exact wpAny_operating (zX hu I g ry λw' s' I' r' => Ue (aae (Us ⟨w, H, I', r', q⟩)))
  first
    | exact Us (Ue fin)
    | exact Ue (Us (Ue fin))
    | exact Ue fin
theorem dm.hu{X:Cx}{pg:Tb}{k:Nat}(A:dm X pg k):X.A.units+1 < cLine:=OF A.room
theorem Sf:dm X pg k-> ∃ r,zU X r/\nH X.K r aw:=λA=>⟨_,JQ.or (Ax A.hu),fun ρ h H x y x' y' Q v h' s rx ry q P=>by
 cases x with
 | tup xs =>
  cases y with
  | int i =>
   simp only[aw] at q
   split at q
   . rename_i w e;cases q;obtain⟨a,vs,rfl,z,r⟩:=rel.seq (x:= .tup xs) rfl rx;obtain⟨u,e1,e2⟩:=r.at e;rw[rel] at ry;exact .inl (.inr (.inl ⟨a,vs,i,u,rfl,ry,z,e1,P _ ρ H (.refl _ _) s e2⟩))
   . exact nomatch q
  | _=>exact nomatch q
 | ktup xs =>
  cases y with
  | int i =>
   simp only[aw] at q
   split at q
   . rename_i w e;cases q;obtain⟨a,vs,rfl,z,r⟩:=rel.seq (x:= .ktup xs) rfl rx;obtain⟨u,e1,e2⟩:=r.at e;rw[rel] at ry;exact .inl (.inr (.inl ⟨a,vs,i,u,rfl,ry,z,e1,P _ ρ H (.refl _ _) s e2⟩))
   . exact nomatch q
  | _=>exact nomatch q
 | str z =>
  cases y with
  | int i =>
   simp only[aw] at q
   obtain⟨hl,q⟩:=kE.mp q
   split at q
   . rename_i c e;cases q;rw[rel] at ry;rw[rel] at rx;exact .inl (.inr (.inr ⟨z,i,c,rx,ry,hl,e,P _ ρ H (.refl _ _) s (by rw[rel])⟩))
   . exact nomatch q
  | _=>exact nomatch q
 | ref n =>
  simp only[aw] at q
  split at q
  . rename_i kvs e;split at q
    . rename_i key ek;split at q
      . rename_i w ew;cases q;rw[rel] at rx;obtain⟨a,ea,rfl⟩:=rx;obtain⟨kws,e1,e2⟩:=s.ob n _ a e ea;obtain⟨u,e3,e4⟩:=RK.some e2 ew;have:=fN ek ry;subst this;exact .inr ⟨a,u,rfl,e3 ▸ j6.k (k:=key) e1,P _ ρ H (.refl _ _) s e4⟩
      . exact nomatch q
    . exact nomatch q
  . rename_i xs e;cases y with
    | int i =>
     simp only at q
     split at q
     . rename_i w ew;cases q;obtain⟨a,vs,rfl,_,z,r⟩:=s.lst e rx;obtain⟨u,e1,e2⟩:=r.at ew;rw[rel] at ry;exact .inl (.inl ⟨a,vs,i,u,rfl,ry,.of z,e1,P _ ρ H (.refl _ _) s e2⟩)
     . exact nomatch q
    | _=>exact nomatch q
  . rename_i xs e;cases y with
    | int i =>
     simp only at q
     split at q
     . rename_i w ew;cases q;obtain⟨a,vs,rfl,_,z,r⟩:=s.kR e rx;obtain⟨u,e1,e2⟩:=r.at ew;rw[rel] at ry;exact .inl (.inl ⟨a,vs,i,u,rfl,ry,z,e1,P _ ρ H (.refl _ _) s e2⟩)
     . exact nomatch q
    | _=>exact nomatch q
  . exact nomatch q
 | _=>exact nomatch q⟩
theorem Qf{f:PV->PV->PH->RV PV}{a b:Expr}{ma mb:ME}{pos:Pos}(hr:dm X pg k-> ∃ r,zU X r/\nH X.K r f)(ha:JE X pg k a ma)(hb:JE X pg k b mb)(hs:uj b):JE X pg k (.Subscript a b pos) (ai f ma mb):=⟨λA =>
 let ⟨_,q1,s1⟩:=ha.h A;let ⟨_,q2,s2⟩:=hb.h A;let ⟨_,q,s⟩:=hr A;⟨_,Oj q q1 q2 hs,yU s s1 s2⟩⟩
noncomputable def dI:PV->PV->PV->PH->RV Unit:=λx y v h=>match x with
 | .ref n=>(match h[n]? with
  | some (.dct kvs)=>(match iF y with
   | some k=>if kvs.length < sizeLine then .ok () (h.set n (.dct (cM kvs k v))) else .no
   | none=> .no)
  | some (.lst xs)=>(match y with
   | .int i=>(match qw xs.length i with | some j=> .ok () (h.set n (.lst (xs.set j v))) | none=> .no)
   | _=> .no)
  | _=> .no)
 | _=> .no
noncomputable def OL:C8:=λo i v H Q=> ∃ a H',o= .ref a/\xR H a i v H'/\Q H'
theorem set_dict(hu:X.A.units+1 < cLine):qY X OL:=by
 intro pins s σ H o i v ov iv u Q I ro ri rv h;obtain⟨a,H',rfl,g,q⟩:=h;obtain rfl:ov=UJ a:=ro;exact zM hu I g ri rv λs' I'=>⟨H',I',q⟩
theorem qY.or{t t':C8}(h:qY X t)(h':qY X t'):qY X (λo i v H Q=>t o i v H Q\/t' o i v H Q):=by
 intro pins s σ H o i v ov iv u Q I ro ri rv q;rcases q with q | q
 . exact h pins s σ H o i v ov iv u Q I ro ri rv q
 . exact h' pins s σ H o i v ov iv u Q I ro ri rv q
theorem OQ:dm X pg k-> ∃ t,qY X t/\ ∀ ρ h H x y v x' y' v' u h' Q,dy X.K ρ h H->rel X.K ρ H x x'->rel X.K ρ H y y'->rel X.K ρ H v v'->dI x y v h= .ok u h'->nL X.K ρ H h' Q->t x' y' v' H Q:=λA =>
 ⟨_,qY.or set_list (set_dict A.hu),fun ρ h H x y v x' y' v' u h' Q s rx ry rv q P=>by
 cases x with
 | ref n =>
  simp only[dI] at q
  rw[rel] at rx
  obtain⟨a,ea,rfl⟩:=rx
  split at q
  . rename_i kvs e;split at q
    . rename_i key ek;split at q
      . rename_i hl;cases q;obtain⟨kws,e1,e2⟩:=s.ob n _ a e ea;have:=fN ek ry;subst this;refine .inr ⟨a,_,rfl,xR.k e1 (by rw[<- RK.len e2];exact hl),?_⟩;have g:Gr ρ H ρ (upd H a (.dK (putK kws key v'))):=Gr.write (.inr ⟨_,e1⟩);exact P ρ _ g (s.write e ea rfl rfl ⟨_,bz,Paired.jG g (RK.put e2 rv)⟩)
      . exact nomatch q
    . exact nomatch q
  . rename_i xs e;cases y with
    | int i =>
     simp only at q
     split at q
     . rename_i j ej;cases q;obtain⟨vs,e1,e2⟩:=s.ob n _ a e ea;rw[rel] at ry;have g:Gr ρ H ρ (upd H a (.lst (vs.set j v'))):=Gr.write (.inl ⟨_,e1⟩);exact .inl ⟨a,vs,i,j,rfl,ry,e1,by rw[<- e2.len];exact ej,P ρ _ g (s.write e ea rfl rfl ⟨_,bz,av.gr g _ _ (e2.set j rv)⟩)⟩
     . exact nomatch q
    | _=>exact nomatch q
  . exact nomatch q
 | _=>exact nomatch q⟩
end
mutual
def bV(K:Ud)(H:Hp):Ws->V->Prop
 | .none,v=>v= .non
 | .bool b,v=>v= .bl b
 | .int i,v=>v= .int i
 | .str x,v=>v= .str x
 | .list xs,v=> ∃ a vs,v= .ref a/\iS K H a vs/\fR K H xs vs
 | .tuple xs,v=> ∃ a vs,v= .ref a/\fM K H a vs/\fR K H xs vs
 | .dict _,_=>False
def fR(K:Ud)(H:Hp):List Ws->List V->Prop
 | [],vs=>vs=[]
 | x::r,vs=> ∃ v t,vs=v::t/\bV K H x v/\fR K H r t
end
mutual
theorem bV.reads{X:Cx}{pins:List (Addr × Obj)}{σ :L2.St}{H:Hp}{s:Uj}(I:Inv X pins σ H s): ∀(d:Ws)(v:V)(u:Value),bV X.K H d v->RelV v u-> ∃ as,Reads s.heap u d as
 | .none,v,u,h,r=>by rw[bV] at h;subst h;cases(show u=Wl from r);exact⟨_,.none⟩
 | .bool b,v,u,h,r=>by rw[bV] at h;subst h;cases(show u=YC b from r);exact⟨_,.bool b⟩
 | .int i,v,u,h,r=>by rw[bV] at h;subst h;obtain⟨t,rfl⟩:=(show ∃ t,u=Xf i t from r);exact⟨_,.int i t⟩
 | .str x,v,u,h,r=>by rw[bV] at h;subst h;obtain⟨t,rfl⟩:=(show ∃ t,u=X0 x t from r);exact⟨_,.str x t⟩
 | .list xs,v,u,h,r=>by
  rw[bV] at h;obtain⟨a,vs,rfl,z,q⟩:=h;cases(show u=UJ a from r);obtain⟨aj,rv,⟨o,n,e,c,_,dd⟩,_⟩:=I.list z;obtain⟨as,ra⟩:=fR.reads I xs vs aj q rv;exact⟨_,.list e c dd (by simpa using ra)⟩
 | .tuple xs,v,u,h,r=>by
  rw[bV] at h;obtain⟨a,vs,rfl,z,q⟩:=h;cases(show u=UJ a from r);obtain⟨aj,rv,⟨o,e,c,n,dd⟩,_⟩:=I.tuple z;obtain⟨as,ra⟩:=fR.reads I xs vs aj q rv;exact⟨_,.tuple e c dd (by simpa using ra)⟩
 | .dict _,v,u,h,r=>by rw[bV] at h;exact h.elim
theorem fR.reads{X:Cx}{pins:List (Addr × Obj)}{σ :L2.St}{H:Hp}{s:Uj}(I:Inv X pins σ H s): ∀(xs:List Ws)(vs:List V)(us:List Value),fR X.K H xs vs->Vals vs us-> ∃ as,ReadsAll s.heap us xs as
 | [],vs,us,h,r=>by rw[fR] at h;subst h;cases r;exact⟨_,.nil⟩
 | x::t,vs,us,h,r=>by
  rw[fR] at h;obtain⟨v,w,rfl,h1,h2⟩:=h;cases r with
  | cons r1 r2 =>
   obtain⟨as,a⟩:=bV.reads I x v _ h1 r1
   obtain⟨bs,b⟩:=fR.reads I t w _ h2 r2
   exact⟨_,.cons a b⟩
end
mutual
def jd(sub:Nat->Option Ws):PV->Option Ws
 | .non=>some .none
 | .bl b=>some (.bool b)
 | .int i=>some (.int i)
 | .str x=>some (.str x)
 | .tup xs=>(bU sub xs).map .tuple
 | .ktup xs=>(bU sub xs).map .tuple
 | .ref n=>sub n
 | .ty _=>none
def bU(sub:Nat->Option Ws):List PV->Option (List Ws)
 | []=>some []
 | x::r=>match jd sub x,bU sub r with
  | some d1,some ds1=>some (d1::ds1)
  | _,_=>none
end
noncomputable def dat:Nat->PH->PV->Option Ws
 | 0,_=>jd λ_=>none
 | n+1,h=>jd λm=>match h[m]? with
  | some (.lst xs)=>(bU (λj=>dat n h (.ref j)) xs).map .list
  | some (.kR xs)=>(bU (λj=>dat n h (.ref j)) xs).map .list
  | _=>none
mutual
theorem jd.v{K:Ud}{ρ :List Addr}{H:Hp}{sub:Nat->Option Ws}(hs: ∀ n d v,sub n=some d->rel K ρ H (.ref n) v->bV K H d v): ∀(x:PV)(d:Ws)(v:V),jd sub x=some d->rel K ρ H x v->bV K H d v
 | .non,d,v,e,r=>by cases e;rw[rel] at r;rw[bV];exact r
 | .bl b,d,v,e,r=>by cases e;rw[rel] at r;rw[bV];exact r
 | .int b,d,v,e,r=>by cases e;rw[rel] at r;rw[bV];exact r
 | .str b,d,v,e,r=>by cases e;rw[rel] at r;rw[bV];exact r
 | .ty b,d,v,e,r=>by exact nomatch e
 | .ref n,d,v,e,r=>hs n d v e r
 | .tup xs,d,v,e,r=>by
  rw[jd] at e;cases q:bU sub xs with
  | none=>rw[q] at e;exact nomatch e
  | some ds =>
   rw[q] at e;cases e
   obtain⟨a,vs,e1,e2,e3⟩:=rel.seq (x:= .tup xs) rfl r
   rw[bV];exact⟨a,vs,e1,e2,bU.v hs xs ds vs q e3⟩
 | .ktup xs,d,v,e,r=>by
  rw[jd] at e;cases q:bU sub xs with
  | none=>rw[q] at e;exact nomatch e
  | some ds =>
   rw[q] at e;cases e
   obtain⟨a,vs,e1,e2,e3⟩:=rel.seq (x:= .ktup xs) rfl r
   rw[bV];exact⟨a,vs,e1,e2,bU.v hs xs ds vs q e3⟩
theorem bU.v{K:Ud}{ρ :List Addr}{H:Hp}{sub:Nat->Option Ws}(hs: ∀ n d v,sub n=some d->rel K ρ H (.ref n) v->bV K H d v): ∀(xs:List PV)(ds:List Ws)(vs:List V),bU sub xs=some ds->av K ρ H xs vs->fR K H ds vs
 | [],ds,vs,e,r=>by cases e;rw[av] at r;rw[fR];exact r
 | x::t,ds,vs,e,r=>by
  rw[bU] at e;split at e
  . rename_i d ds' e1 e2;cases e;obtain⟨v,w,rfl,r1,r2⟩:=aD.mp r;rw[fR];exact⟨v,w,rfl,jd.v hs x d v e1 r1,bU.v hs t ds' w e2 r2⟩
  . exact nomatch e
end
theorem dat.v{K:Ud}{ρ :List Addr}{h:PH}{H:Hp}(s:dy K ρ h H): ∀(n:Nat)(x:PV)(d:Ws)(v:V),dat n h x=some d->rel K ρ H x v->bV K H d v
 | 0,x,d,v,e,r=>jd.v (λ_ _ _ z _=>by cases z) x d v e r
 | n+1,x,d,v,e,r=>by
  refine jd.v (λm d' v' z rv=>?_) x d v e r;split at z
  . rename_i xs em;cases q:bU (λj=>dat n h (.ref j)) xs with
    | none=>rw[q] at z;exact nomatch z
    | some ds =>
     rw[q] at z;cases z
     obtain⟨a,vs,e1,_,e2,e3⟩:=s.lst em rv
     rw[bV];exact⟨a,vs,e1,.of e2,bU.v (λj d v z rv=>dat.v s n (.ref j) d v z rv) xs ds vs q e3⟩
  . rename_i xs em;cases q:bU (λj=>dat n h (.ref j)) xs with
    | none=>rw[q] at z;exact nomatch z
    | some ds =>
     rw[q] at z;cases z
     obtain⟨a,vs,e1,_,e2,e3⟩:=s.kR em rv
     rw[bV];exact⟨a,vs,e1,e2,bU.v (λj d v z rv=>dat.v s n (.ref j) d v z rv) xs ds vs q e3⟩
  . exact nomatch z
section
variable{K:Ud}{X:Cx}{pg:Tb}{k:Nat}
noncomputable def OB(K:Ud)(f:Bool->Bool):R2:=λx y H Q=> ∃ d d',bV K H d x/\bV K H d' y/\d.canLay0=true/\d'.canLay0=true/\min d.depth d'.depth<=64/\Q (.bl (f (YL d d'))) H
theorem MD(hr:X.A.units+64 < cLine):dw X (UY .Eq) (OB X.K id):=by
 intro pins s σ H x y v u Q I rx ry ⟨d,d',h1,h2,c1,c2,hd,q⟩;obtain⟨as,ra⟩:=bV.reads I d x v h1 rx;obtain⟨bs,rb⟩:=bV.reads I d' y u h2 ry;exact SeqAt.compareEq_reads ra rb c1 c2 (by omega) ⟨.bl _,H,I,rfl,q⟩
theorem J0(hr:X.A.units+64 < cLine):dw X (UY .NotEq) (OB X.K not):=by
 intro pins s σ H x y v u Q I rx ry ⟨d,d',h1,h2,c1,c2,hd,q⟩;obtain⟨as,ra⟩:=bV.reads I d x v h1 rx;obtain⟨bs,rb⟩:=bV.reads I d' y u h2 ry;exact SeqAt.compareNe_reads ra rb c1 c2 (by omega) ⟨.bl _,H,I,rfl,q⟩
noncomputable def kf:PV->PV->Bool
 | .non,.non=>true | .non,.int _=>true | .int _,.non=>true | .non,.bl _=>true | .bl _,.non=>true | .non,.str _=>true | .str _,.non=>true
 | .int _,.int _=>true | .bl _,.bl _=>true | .str _,.str _=>true
 | .int _,.str _=>true | .str _,.int _=>true | .bl _,.str _=>true | .str _,.bl _=>true
 | _,_=>false
noncomputable def gF(h:PH):PV->Bool
 | .ref n=>(match h[n]? with
  | some (.dct _)=>true
  | _=>false)
 | _=>false
noncomputable def isStr:PV->Bool
 | .str _=>true
 | _=>false
noncomputable def alike(x y:PV)(h:PH):Option Bool :=
 if kf x y=true then some (decide (x=y)) else match dat 6 h x,dat 6 h y with
  | some a,some b=>if a.canLay0=true/\b.canLay0=true/\min a.depth b.depth<=64 then some (YL a b) else none
  | _,_=>if gF h x=true/\isStr y=true then some false else none
noncomputable def oz(x y:PV)(h:PH):RV PV:=match alike x y h with
 | some b=> .ok (.bl b) h
 | none=> .no
noncomputable def iV (x y:PV) (h:PH):RV PV:=match alike x y h with
 | some b=>if gF h x=true then .no else .ok (.bl (!b)) h
 | none=> .no
theorem Dc {ρ : List Addr} {H : Hp} {x y : PV} {x' y' : V} (h : kf x y = true) (rx : rel K ρ H x x') (ry : rel K ρ H y y') : Ec x' y' = true /\ decide (x' = y') = decide (x = y) := by
  cases x <;> cases y <;> first
    | (exfalso; revert h; simp [kf]; done)
    | (rw [rel] at rx; rw [rel] at ry; subst rx; subst ry; simp [Ec])
theorem qa{ρ :List Addr}{h:PH}{H:Hp}{x y:PV}{x' y':V}{b:Bool}(s:dy K ρ h H)(rx:rel K ρ H x x')(ry:rel K ρ H y y')(e:alike x y h=some b) :
  (Ec x' y'=true/\b=decide (x'=y'))\/(∃ d d',bV K H d x'/\bV K H d' y'/\d.canLay0=true/\d'.canLay0=true/\min d.depth d'.depth<=64/\b=YL d d') \/
  (gF h x=true/\b=false/\ ∃ p z,x'= .ref p/\y'= .str z/\ ∃ kvs,H p=some (.dK kvs)):=by
 unfold alike at e;split at e
 . rename_i hs;cases e;obtain⟨z,w⟩:=Dc hs rx ry;exact .inl ⟨z,w.symm⟩
 . split at e
   . rename_i a c e1 e2;split at e
     . rename_i hc;cases e;exact .inr (.inl ⟨a,c,dat.v s 6 x a x' e1 rx,dat.v s 6 y c y' e2 ry,hc.1,hc.2.1,hc.2.2,rfl⟩)
     . exact nomatch e
   . split at e
     . rename_i hc;cases e;refine .inr (.inr ⟨hc.1,rfl,?_⟩);obtain⟨c1,c2⟩:=hc;cases x with
       | ref n =>
        cases y with
        | str z =>
         rw[rel] at ry
         rw[rel] at rx
         obtain⟨a,ea,rfl⟩:=rx
         simp only[gF] at c1
         split at c1
         . rename_i kvs en;obtain⟨kws,e1,_⟩:=s.ob n _ a en ea;exact⟨a,z,rfl,ry,kws,e1⟩
         . exact nomatch c1
        | _=>exact nomatch c2
       | _=>exact nomatch c1
     . exact nomatch e
theorem Sj:dm X pg k-> ∃ r,dw X (UY .Eq) r/\nH X.K r oz:=λA=>⟨_,OU.or ((MD A.room.units).or (GX A.room.LS)),fun ρ h H x y x' y' Q v h' s rx ry q P=>by
 unfold oz at q;split at q
 . rename_i b e;cases q;have fin:Q (.bl b) H:=P _ ρ H (.refl _ _) s (by rw[rel]);rcases qa s rx ry e with⟨z,rfl⟩ | ⟨d,d',h1,h2,h3,h4,h5,rfl⟩ | ⟨_,rfl,p,z,e1,e2,kvs,e3⟩
   . exact .inl ⟨z,fin⟩
   . exact .inr (.inl ⟨d,d',h1,h2,h3,h4,h5,fin⟩)
   . exact .inr (.inr ⟨p,z,e1,e2,.inr (.inr ⟨kvs,e3⟩),fin⟩)
 . exact nomatch q⟩
theorem Si:dm X pg k-> ∃ r,dw X (UY .NotEq) r/\nH X.K r iV:=λA=>⟨_,ON.or (J0 A.room.units),fun ρ h H x y x' y' Q v h' s rx ry q P=>by
 unfold iV at q;split at q
 . rename_i b e;split at q
   . exact nomatch q
   . rename_i hd;cases q;have fin:Q (.bl (!b)) H:=P _ ρ H (.refl _ _) s (by rw[rel]);rcases qa s rx ry e with⟨z,rfl⟩ | ⟨d,d',h1,h2,h3,h4,h5,rfl⟩ | ⟨z,_⟩
     . exact .inl ⟨z,fin⟩
     . exact .inr ⟨d,d',h1,h2,h3,h4,h5,fin⟩
     . exact absurd z hd
 . exact nomatch q⟩
noncomputable def OY(K:Ud)(f:Bool->Bool):R2:=λx y H Q=> ∃ p vs xs d,y= .ref p/\(iS K H p vs\/fM K H p vs)/\fR K H xs vs/\bV K H d x/\VW xs=true/\d.canLay0=true/\min (W2 xs) d.depth<=60/\Q (.bl (f (xs.any λz=>YL z d))) H
theorem KL(hr:X.A.units+64 < cLine):dw X (UY .In) (OY X.K id):=by
 intro pins s σ H x y v u Q I rx ry ⟨p,vs,xs,d,e,hq,h1,h2,c1,c2,hd,q⟩;subst e;obtain⟨bs,rb⟩:=bV.reads I d x v h2 rx;rcases hq with hq | hq
 . obtain⟨as,ra⟩:=bV.reads I (.list xs) (.ref p) u (by rw[bV];exact⟨p,vs,rfl,hq,h1⟩) ry;exact SeqAt.in_list_reads ra rb c1 c2 (by omega) ⟨.bl _,H,I,rfl,q⟩
 . obtain⟨as,ra⟩:=bV.reads I (.tuple xs) (.ref p) u (by rw[bV];exact⟨p,vs,rfl,hq,h1⟩) ry;exact SeqAt.in_tuple_reads ra rb c1 c2 (by omega) ⟨.bl _,H,I,rfl,q⟩
theorem AV(hr:X.A.units+64 < cLine):dw X (UY .NotIn) (OY X.K not):=by
 intro pins s σ H x y v u Q I rx ry ⟨p,vs,xs,d,e,hq,h1,h2,c1,c2,hd,q⟩;subst e;obtain⟨bs,rb⟩:=bV.reads I d x v h2 rx;rcases hq with hq | hq
 . obtain⟨as,ra⟩:=bV.reads I (.list xs) (.ref p) u (by rw[bV];exact⟨p,vs,rfl,hq,h1⟩) ry;exact SeqAt.notIn_list_reads ra rb c1 c2 (by omega) ⟨.bl _,H,I,rfl,q⟩
 . obtain⟨as,ra⟩:=bV.reads I (.tuple xs) (.ref p) u (by rw[bV];exact⟨p,vs,rfl,hq,h1⟩) ry;exact SeqAt.notIn_tuple_reads ra rb c1 c2 (by omega) ⟨.bl _,H,I,rfl,q⟩
noncomputable def OO(f:Bool->Bool):R2:=λx y H Q=> ∃ a o,y= .ref a/\j6 H a x o/\Q (.bl (f o.isSome)) H
theorem Jv(hu:X.A.units+1 < cLine):dw X (UY .In) (OO id):=by
 intro pins s σ H x y v u Q I rx ry ⟨a,o,e,g,q⟩;subst e;obtain rfl:u=UJ a:=ry;exact SD hu I g rx λs' I'=>⟨.bl _,H,I',rfl,q⟩
theorem AO(hu:X.A.units+1 < cLine):dw X (UY .NotIn) (OO not):=by
 intro pins s σ H x y v u Q I rx ry ⟨a,o,e,g,q⟩;subst e;obtain rfl:u=UJ a:=ry;exact EX hu I g rx λs' I'=>⟨.bl _,H,I',rfl,q⟩
noncomputable def itemsOf(h:PH):PV->Option (List PV)
 | .tup xs=>some xs
 | .ktup xs=>some xs
 | .ref n=>cV h n
 | _=>none
theorem dy.items{ρ :List Addr}{h:PH}{H:Hp}(s:dy K ρ h H){x:PV}{xs:List PV}{v:V}(e:itemsOf h x=some xs)(r:rel K ρ H x v): ∃ a vs,v= .ref a/\(iS K H a vs\/fM K H a vs)/\av K ρ H xs vs:=by
 cases x with
 | tup ys=>cases e;obtain⟨a,vs,e1,e2,e3⟩:=rel.seq (x:= .tup xs) rfl r;exact⟨a,vs,e1,.inr e2,e3⟩
 | ktup ys=>cases e;obtain⟨a,vs,e1,e2,e3⟩:=rel.seq (x:= .ktup xs) rfl r;exact⟨a,vs,e1,.inr e2,e3⟩
 | ref n=>obtain⟨a,vs,e1,_,e2,e3⟩:=s.sq e r;exact⟨a,vs,e1,.inl e2,e3⟩
 | _=>exact nomatch e
noncomputable def fO:PV->Bool
 | .non=>true
 | .bl _=>true
 | .int _=>true
 | .str _=>true
 | _=>false
noncomputable def N8:PV->PV->Bool
 | .non,.non=>true
 | .bl a,.bl b=>a == b
 | .bl a,.int b=>(if a then 1 else 0) == b
 | .int a,.bl b=>a == (if b then 1 else 0)
 | .int a,.int b=>a == b
 | .str a,.str b=>a == b
 | _,_=>false
theorem vB {ρ :List Addr} {H:Hp} {x:PV} {v:V} (h:fO x=true) (r:rel K ρ H x v):iR v=true:=by
 cases x<;>first | (exfalso;revert h;simp [fO];done) | (rw [rel] at r;subst r;rfl)
theorem Gi {ρ : List Addr} {H : Hp} {x y : PV} {v w : V} (hx : fO x = true) (hy : fO y = true) (rx : rel K ρ H x v) (ry : rel K ρ H y w) : HH v w = N8 x y := by
  cases x <;> first
    | (exfalso; revert hx; simp [fO]; done)
    | (cases y <;> first
        | (exfalso; revert hy; simp[fO]; done)
        | (rw[rel] at rx; rw[rel] at ry; subst rx; subst ry; rfl))
theorem Je{ρ :List Addr}{H:Hp}{x:PV}{v:V}(hx:fO x=true)(rx:rel K ρ H x v): ∀{xs:List PV}{vs:List V},xs.all fO=true->av K ρ H xs vs->vs.all iR=true/\gE v vs=xs.any λz=>N8 z x
 | [],vs,_,r=>by rw[aI] at r;subst r;exact⟨rfl,rfl⟩
 | y::t,vs,h,r=>by
  obtain⟨w,u,rfl,r1,r2⟩:=aD.mp r;simp only[UD,Xs] at h;obtain⟨a,b⟩:=Je hx rx h.2 r2;refine⟨by rw[Xs,vB h.1 r1,a];rfl,?_⟩;unfold gE at b ⊢;rw[VJ,VJ,b,Gi h.1 hx r1 rx]
noncomputable def isIn(x y:PV)(h:PH):Option Bool:=match itemsOf h y with
 | some xs=>if (fO x&&xs.all fO)=true then some (xs.any λz=>N8 z x) else(match dat 6 h x,bU (λj=>dat 6 h (.ref j)) xs with
  | some d,some ds=>if VW ds=true/\d.canLay0=true/\min (W2 ds) d.depth<=60 then some (ds.any λz=>YL z d) else none
  | _,_=>none)
 | none=>(match y with
  | .ref n=>(match h[n]? with
   | some (.dct kvs)=>(iF x).map λk=>(bT kvs k).isSome
   | _=>none)
  | .str j=>(match x with
   | .str i=>some (!(WM j i 0 j.length 1).isEmpty)
   | _=>none)
  | _=>none)
noncomputable def iW(x y:PV)(h:PH):RV PV:=match isIn x y h with
 | some b=> .ok (.bl b) h
 | none=> .no
noncomputable def ko(x y:PV)(h:PH):RV PV:=match isIn x y h with
 | some b=> .ok (.bl (!b)) h
 | none=> .no
theorem si{ρ :List Addr}{h:PH}{H:Hp}{x y:PV}{x' y':V}{b:Bool}(s:dy K ρ h H)(rx:rel K ρ H x x')(ry:rel K ρ H y y')(e:isIn x y h=some b) :
  (∃ p xs,y'= .ref p/\(iS K H p xs\/fM K H p xs)/\iR x'=true/\xs.all iR=true/\b=gE x' xs) \/
  (∃ p vs xs d,y'= .ref p/\(iS K H p vs\/fM K H p vs)/\fR K H xs vs/\bV K H d x'/\VW xs=true/\d.canLay0=true/\min (W2 xs) d.depth<=60/\b=xs.any λz=>YL z d) \/
  (∃ a o,y'= .ref a/\j6 H a x' o/\b=o.isSome) \/
  (∃ i j,x'= .str i/\y'= .str j/\b= !(WM j i 0 j.length 1).isEmpty):=by
 unfold isIn at e;split at e
 . rename_i xs ei;obtain⟨a,vs,rfl,z,r⟩:=s.items ei ry;split at e
   . rename_i hf;cases e;rw[UD] at hf;obtain⟨f1,f2⟩:=Je hf.1 rx hf.2 r;exact .inl ⟨a,vs,rfl,z,vB hf.1 rx,f1,f2.symm⟩
   . split at e
     . rename_i d ds e1 e2;split at e
       . rename_i hc;cases e;exact .inr (.inl ⟨a,vs,ds,d,rfl,z,bU.v (λj d v w rv=>dat.v s 6 (.ref j) d v w rv) xs ds vs e2 r,dat.v s 6 x d x' e1 rx,hc.1,hc.2.1,hc.2.2,rfl⟩)
       . exact nomatch e
     . exact nomatch e
 . split at e
   . rename_i n ei;split at e
     . rename_i kvs en;cases q:iF x with
       | none=>rw[q] at e;exact nomatch e
       | some key =>
        rw[q] at e
        cases e
        rw[rel] at ry
        obtain⟨a,ea,rfl⟩:=ry
        obtain⟨kws,e1,e2⟩:=s.ob n _ a en ea
        have:=fN q rx
        subst this
        exact .inr (.inr (.inl ⟨a,_,rfl,j6.k (k:=key) e1,(RK.is key e2).symm⟩))
     . exact nomatch e
   . split at e
     . cases e;rw[rel] at rx;rw[rel] at ry;exact .inr (.inr (.inr ⟨_,_,rx,ry,rfl⟩))
     . exact nomatch e
   . exact nomatch e
theorem Sx:dm X pg k-> ∃ r,dw X (UY .In) r/\nH X.K r iW:=λA=>⟨_,Bn.or ((KL A.room.units).or ((Jv A.hu).or Ai)),fun ρ h H x y x' y' Q v h' s rx ry q P=>by
 unfold iW at q;split at q
 . rename_i b e;cases q;have fin:Q (.bl b) H:=P _ ρ H (.refl _ _) s (by rw[rel]);rcases si s rx ry e with⟨p,xs,e1,e2,e3,e4,rfl⟩ | ⟨p,vs,xs,d,e1,e2,e3,e4,e5,e6,e7,rfl⟩ | ⟨a,o,e1,e2,rfl⟩ | ⟨i,j,e1,e2,rfl⟩
   . exact .inl ⟨p,xs,e1,e2,e3,e4,fin⟩
   . exact .inr (.inl ⟨p,vs,xs,d,e1,e2,e3,e4,e5,e6,e7,fin⟩)
   . exact .inr (.inr (.inl ⟨a,o,e1,e2,fin⟩))
   . exact .inr (.inr (.inr ⟨i,j,e1,e2,fin⟩))
 . exact nomatch q⟩
theorem F5:dm X pg k-> ∃ r,dw X (UY .NotIn) r/\nH X.K r ko:=λA=>⟨_,tf.or ((AV A.room.units).or ((AO A.hu).or sS)),fun ρ h H x y x' y' Q v h' s rx ry q P=>by
 unfold ko at q;split at q
 . rename_i b e;cases q;have fin:Q (.bl (!b)) H:=P _ ρ H (.refl _ _) s (by rw[rel]);rcases si s rx ry e with⟨p,xs,e1,e2,e3,e4,rfl⟩ | ⟨p,vs,xs,d,e1,e2,e3,e4,e5,e6,e7,rfl⟩ | ⟨a,o,e1,e2,rfl⟩ | ⟨i,j,e1,e2,rfl⟩
   . exact .inl ⟨p,xs,e1,e2,e3,e4,fin⟩
   . exact .inr (.inl ⟨p,vs,xs,d,e1,e2,e3,e4,e5,e6,e7,fin⟩)
   . exact .inr (.inr (.inl ⟨a,o,e1,e2,fin⟩))
   . exact .inr (.inr (.inr ⟨i,j,e1,e2,fin⟩))
 . exact nomatch q⟩
noncomputable def hI(neg:Bool)(x:PV)(h:PH):RV PV:= .ok (.bl (if neg then !decide (x= .non) else decide (x= .non))) h
theorem GF{ρ :List Addr}{H:Hp}{x:PV}{v:V}(r:rel K ρ H x v):decide (v= .non)=decide (x= .non):=by
 cases x with
 | non=>rw[rel] at r;subst r;rfl
 | bl=>rw[rel] at r;subst r;rfl
 | int=>rw[rel] at r;subst r;rfl
 | str=>rw[rel] at r;subst r;rfl
 | ty=>rw[rel] at r;subst r;rfl
 | tup=>rw[rel] at r;obtain⟨a,_,rfl,_⟩:=r;rfl
 | ktup=>rw[rel] at r;obtain⟨a,_,rfl,_⟩:=r;rfl
 | ref=>rw[rel] at r;obtain⟨a,_,rfl⟩:=r;rfl
variable{a:Expr}{ma:ME}{pos pos':Pos}
theorem xa{c:CF}{ta:TE}(neg:Bool)(s1:SE c K ta ma):SE c K (fun σ H Q=>ta σ H λx H1=>Q (.bl (if neg then !decide (x= .non) else decide (x= .non))) H1) (Bp (hI neg) ma):=fun ρ h H e σ Q v h' s r q P=>by
 obtain⟨x,h1,e1,q⟩:=bind_eq.mp q;cases q;refine s1 ρ h H e σ _ x _ s r e1 λx' ρ1 H1 g1 z1 r1=>?_;rw[GF r1];exact P _ ρ1 H1 g1 z1 (by rw[rel])
theorem NA{j:Nat}(ha:JE X pg k a ma):JE X pg k (.Compare a [.Is] [.Constant .none j pos'] pos) (Bp (hI false) ma):=⟨λA=>let ⟨_,q1,s1⟩:=ha.h A;⟨_,Lq q1,xa false s1⟩⟩
theorem Jw{j:Nat}(ha:JE X pg k a ma):JT X pg k (.Compare a [.Is] [.Constant .none j pos'] pos) (aM (Bp (hI false) ma)):=⟨λA=>let ⟨_,q1,s1⟩:=ha.h A;⟨_,KQ q1,tq (xa false s1)⟩⟩
theorem Gv{j:Nat}(ha:JE X pg k a ma):JT X pg k (.Compare a [.IsNot] [.Constant .none j pos'] pos) (aM (Bp (hI true) ma)):=⟨λA=>let ⟨_,q1,s1⟩:=ha.h A;⟨_,FJ q1,tq (xa true s1)⟩⟩
end
section
variable{K:Ud}{X:Cx}{pg:Tb}{k:Nat}
abbrev MO:=CF->ao->PH->RV (Option Int)
noncomputable def jf:MO:=λ_ _ h=> .ok none h
noncomputable def gp(a:ME):MO:=λc e h=>(a c e h).bind λv h1=>match v with
 | .int i=> .ok (some i) h1
 | _=> .no
noncomputable def gD(xs:List PV)(lo hi:Option Int):List PV:=(xs.drop (HT.df xs.length 0 lo)).take (HT.df xs.length xs.length hi - HT.df xs.length 0 lo)
noncomputable def Hg(x:PV)(lo hi:Option Int)(h:PH):RV PV:=match x with
 | .tup xs=> .ok (.tup (gD xs lo hi)) h
 | .ref n=>(match cV h n with
  | some xs=> .ok (.ref h.length) (h++[.lst (gD xs lo hi)])
  | none=> .no)
 | _=> .no
noncomputable def AQ(a:ME)(l u:MO):ME:=λc e h=>(a c e h).bind λx h1=>(l c e h1).bind λlo h2=>(u c e h2).bind λhi h3=>Hg x lo hi h3
structure JO(X:Cx)(pg:Tb)(k:Nat)(e:Option Expr)(m:MO):Prop where
 h:dm X pg k-> ∃ t,QO X e t/\ ∀ ρ h H e σ Q o h',dy X.K ρ h H->ef X.K ρ H e σ ->m (run pg k) e h= .ok o h'->nL X.K ρ H h' (Q o)->t σ H Q
theorem FL:JO X pg k none jf:=⟨λA=>⟨_,EU,fun ρ h H e σ Q o h' s r q P=>by cases q;exact P ρ H (.refl _ _) s⟩⟩
theorem GJ{e:Expr}{ma:ME}(ha:JE X pg k e ma):JO X pg k (some e) (gp ma):=⟨λA=>let ⟨_,q1,s1⟩:=ha.h A;⟨_,GO q1,fun ρ h H e σ Q o h' s r q P=>by
 obtain⟨v,h1,e1,q⟩:=bind_eq.mp q;refine s1 ρ h H e σ _ v h1 s r e1 λv' ρ1 H1 g1 z1 r1=>?_;cases v with
 | int i=>cases q;rw[rel] at r1;exact⟨i,r1,P ρ1 H1 g1 z1⟩
 | _=>exact nomatch q⟩⟩
theorem av.cut{ρ :List Addr}{H:Hp}{xs:List PV}{vs:List V}(r:av K ρ H xs vs)(lo hi:Option Int):av K ρ H (gD xs lo hi) (nV vs lo hi):=by
 unfold gD nV;rw[<- r.len];exact(r.drop _).take _
theorem Cv{e:Expr}{lo hi:Option Expr}{ma:ME}{ml mu:MO}{p2 pos:Pos}(ha:JE X pg k e ma)(hl:JO X pg k lo ml)(hh:JO X pg k hi mu):JE X pg k (.Subscript e (.Slice lo hi none p2) pos) (AQ ma ml mu):=⟨λA =>
 let ⟨_,q1,s1⟩:=ha.h A;let ⟨_,q2,s2⟩:=hl.h A;let ⟨_,q3,s3⟩:=hh.h A;⟨_,Cs Ua q1 q2 q3,fun ρ h H e σ Q v h' s r q P=>by
 obtain⟨x,h1,e1,q⟩:=bind_eq.mp q
 obtain⟨lo,h2,e2,q⟩:=bind_eq.mp q
 obtain⟨hi,h3,e3,q⟩:=bind_eq.mp q
 refine s1 ρ h H e σ _ x h1 s r e1 λx' ρ1 H1 g1 z1 r1=>?_
 refine s2 ρ1 h1 H1 e σ _ lo h2 z1 (r.gr g1) e2 fun ρ2 H2 g2 z2=>?_
 refine s3 ρ2 h2 H2 e σ _ hi h3 z2 (r.gr (g1.trans g2)) e3 fun ρ3 H3 g3 z3=>?_
 have r3:=rel.gr (K:=X.K) (g2.trans g3) _ _ r1
 have P3:=P.gr ((g1.trans g2).trans g3)
 cases x with
 | tup xs =>
  cases q
  rw[rel] at r3
  obtain⟨a,vs,rfl,d1,d2⟩:=r3
  by_cases hw:HT.df vs.length 0 lo=0/\HT.df vs.length vs.length hi=vs.length
  . refine .inr (.inr ⟨a,vs,rfl,.of d1,hw,P3 _ ρ3 H3 (.refl _ _) z3 ?_⟩);have:gD xs lo hi=xs:=by
     unfold gD;rw[d2.len,hw.1,hw.2,aai,aa8,<- d2.len,Zz]
    rw[this,rel];exact⟨a,vs,rfl,d1,d2⟩
  . exact .inr (.inl ⟨a,vs,rfl,.of d1,hw,λp hp=>om z3 (d2.cut lo hi) P3 p hp⟩)
 | ref n =>
  simp only[Hg] at q
  split at q
  . rename_i xs en;cases q;obtain⟨a,vs,rfl,_,d1,d2⟩:=z3.sq en r3;exact .inl ⟨a,vs,rfl,d1,λp hp=>d7 z3 (d2.cut lo hi) P3 p hp⟩
  . exact nomatch q
 | _=>exact nomatch q⟩⟩
noncomputable def cD:List PV->PH->RV PV:=λxs h=>match xs with
 | [x]=>(match itemsOf h x with
  | some ys=> .ok (.int ys.length) h
  | none=>(match x with
   | .str z=>mn z.length (.ok (.int z.length) h)
   | .ref n=>(match h[n]? with
    | some (.dct kvs)=> .ok (.int kvs.length) h
    | _=> .no)
   | _=> .no))
 | _=> .no
theorem aR{ρ :List Addr}{H:Hp}{x:PV}{us:List V}(r:av K ρ H [x] us): ∃ u,us=[u]/\rel K ρ H x u:=by
 obtain⟨v,t,rfl,r1,r2⟩:=aD.mp r;rw[aI] at r2;exact⟨v,by rw[r2],r1⟩
theorem lq{ρ :List Addr}{H:Hp}{x y:PV}{us:List V}(r:av K ρ H [x,y] us): ∃ u w,us=[u,w]/\rel K ρ H x u/\rel K ρ H y w:=by
 obtain⟨v,t,rfl,r1,r2⟩:=aD.mp r;obtain⟨w,rfl,r3⟩:=aR r2;exact⟨v,w,rfl,r1,r3⟩
theorem O1:dm X pg k-> ∃ r,aV X (.builtin "len") r/\Bw X.K r cD:=λA=>⟨_,HI.or Ag,fun ρ h H xs us Q v h' s r q P=>by
 unfold cD at q;split at q
 . rename_i x;obtain⟨u,rfl,r1⟩:=aR r;have r:=r1;split at q
   . rename_i ys e;cases q;obtain⟨a,vs,rfl,z,r2⟩:=s.items e r;exact .inl (.inl ⟨a,vs,rfl,z,by rw[<- r2.len];exact P _ ρ H (.refl _ _) s (by rw[rel])⟩)
   . split at q
     . obtain⟨hl,q⟩:=kE.mp q;cases q;rw[rel] at r;subst r;exact .inl (.inr ⟨_,rfl,hl,P _ ρ H (.refl _ _) s (by rw[rel])⟩)
     . split at q
       . rename_i e;cases q;rw[rel] at r;obtain⟨a,ea,rfl⟩:=r;obtain⟨kws,e1,e2⟩:=s.ob _ _ a e ea;exact .inr ⟨a,kws,rfl,e1,by rw[<- RK.len e2];exact P _ ρ H (.refl _ _) s (by rw[rel])⟩
       . exact nomatch q
     . exact nomatch q
 . exact nomatch q⟩
inductive Ty where
 | non | bool | int | str | tuple | list | dict
 deriving DecidableEq
noncomputable def Ty.n:Ty->String
 | .non=> "NoneType" | .bool=> "bool" | .int=> "int" | .str=> "str" | .tuple=> "tuple" | .list=> "list" | .dict=> "dict"
noncomputable def Ty.of:String->Option Ty
 | "bool" =>some .bool | "int" =>some .int | "str" =>some .str | "tuple" =>some .tuple | "list" =>some .list | "dict" =>some .dict
 | _=>none
noncomputable def Ty.Ol(a b:Ty):Bool:=decide (a=b)||(decide (a= .bool)&&decide (b= .int))
noncomputable def tyP(h:PH):PV->Option Ty
 | .non=>some .non
 | .bl _=>some .bool
 | .int _=>some .int
 | .str _=>some .str
 | .tup _=>some .tuple
 | .ref n=>(match h[n]? with
  | some (.lst _)=>some .list
  | some (.dct _)=>some .dict
  | _=>none)
 | _=>none
theorem Em{ρ :List Addr}{h:PH}{H:Hp}{x:PV}{t:Ty}{v:V}(s:dy K ρ h H)(e:tyP h x=some t)(r:rel K ρ H x v):jW K H v (.type t.n):=by
 cases x with
 | non=>cases e;rw[rel] at r;subst r;exact .non
 | bl b=>cases e;rw[rel] at r;subst r;exact .bl b
 | int i=>cases e;rw[rel] at r;subst r;exact .int i
 | str z=>cases e;rw[rel] at r;subst r;exact .str z
 | tup xs=>cases e;rw[rel] at r;obtain⟨a,vs,rfl,e1,_⟩:=r;exact .tup e1
 | ref n =>
  rw[rel] at r
  obtain⟨a,ea,rfl⟩:=r
  simp only[tyP] at e
  split at e
  . rename_i en;cases e;obtain⟨vs,e1,_⟩:=s.ob n _ a en ea;exact .lst e1
  . rename_i en;cases e;obtain⟨vs,e1,_⟩:=s.ob n _ a en ea;exact .dK e1
  . exact nomatch e
 | _=>exact nomatch e
theorem CA(a b:Ty)(hb:b≠ .non):YE K (.type a.n) (.type b.n)=some (a.Ol b):=by
 cases b<;>first | (exact absurd rfl hb) | (cases a<;>rfl)
theorem Ty.Qe{T:String}{t:Ty}(h:Ty.of T=some t):T=t.n/\t≠ .non:=by
 unfold Ty.of at h;split at h<;>first | (cases h;exact⟨rfl,by decide⟩) | exact nomatch h
noncomputable def zc:List PV->Option (List Ty)
 | []=>some []
 | .ty T::r=>(match Ty.of T,zc r with
  | some t,some ts=>some (t::ts)
  | _,_=>none)
 | _=>none
noncomputable def Am:List PV->PH->RV PV:=λxs h=>match xs with
 | [x,.ty T]=>(match tyP h x,Ty.of T with
  | some a,some b=> .ok (.bl (a.Ol b)) h
  | _,_=> .no)
 | [x,.tup ts]=>(match tyP h x,zc ts with
  | some a,some bs=> .ok (.bl (bs.any a.Ol)) h
  | _,_=> .no)
 | _=> .no
theorem yN{ρ :List Addr}{H:Hp}: ∀{ts:List PV}{bs:List Ty}{vs:List V},zc ts=some bs->av K ρ H ts vs->vs=(bs.map Ty.n).map V.ty/\ ∀ b∈bs,b≠ .non
 | [],bs,vs,e,r=>by cases e;rw[aI] at r;subst r;exact⟨rfl,λ_ m=>by cases m⟩
 | .ty T::t,bs,vs,e,r=>by
  simp only[zc] at e;split at e
  . rename_i b bs' e1 e2;cases e;obtain⟨v,w,rfl,r1,r2⟩:=aD.mp r;obtain⟨h1,h2⟩:=yN e2 r2;rw[rel] at r1;obtain⟨n1,n2⟩:=Ty.Qe e1;refine⟨by rw[r1,h1,n1];rfl,λc m=>?_⟩;rcases Uy.mp m with rfl | m
    . exact n2
    . exact h2 c m
  . exact nomatch e
 | .non::_,_,_,e,_=>nomatch e
 | .bl _::_,_,_,e,_=>nomatch e
 | .int _::_,_,_,e,_=>nomatch e
 | .str _::_,_,_,e,_=>nomatch e
 | .tup _::_,_,_,e,_=>nomatch e
 | .ktup _::_,_,_,e,_=>nomatch e
 | .ref _::_,_,_,e,_=>nomatch e
theorem zt(a:Ty): ∀(bs:List Ty),(∀ b∈bs,b≠ .non)->aal K (.type a.n) ((bs.map Ty.n).map Xz)=some (bs.any a.Ol)
 | [],_=>rfl
 | b::r,h=>by
  have h1:=CA (K:=K) a b (h b Uv);have h2:=zt a r λc m=>h c (Uz _ m);simp only[Ul,VJ,aal,h1,h2];cases a.Ol b<;>rfl
theorem Pr:dm X pg k-> ∃ r,aV X (.builtin "isinstance") r/\Bw X.K r Am:=λA=>⟨_,C7,fun ρ h H xs us Q v h' s r q P=>by
 unfold Am at q;split at q
 . rename_i x T;split at q
   . rename_i a b e1 e2;cases q;obtain⟨u,w,rfl,r1,r2⟩:=lq r;rw[rel] at r2;subst r2;obtain⟨n1,n2⟩:=Ty.Qe e2;exact .inl ⟨u,T,_,_,rfl,Em s e1 r1,by rw[n1];exact CA a b n2,P _ ρ H (.refl _ _) s (by rw[rel])⟩
   . exact nomatch q
 . rename_i x ts;split at q
   . rename_i a bs e1 e2;cases q;obtain⟨u,w,rfl,r1,r2⟩:=lq r;rw[rel] at r2;obtain⟨p,vs,rfl,e3,e4⟩:=r2;obtain⟨h1,h2⟩:=yN e2 e4;subst h1;exact .inr ⟨u,p,_,_,_,rfl,e3,Em s e1 r1,zt a bs h2,P _ ρ H (.refl _ _) s (by rw[rel])⟩
   . exact nomatch q
 . exact nomatch q⟩
noncomputable def uU:List PV->PH->RV PV:=λxs h=>match xs with
 | [.int i]=> .ok (.int i) h
 | [.bl b]=> .ok (.int (if b then 1 else 0)) h
 | _=> .no
theorem QC:dm X pg k-> ∃ r,aV X (.type "int") r/\Bw X.K r uU:=λA=>⟨_,GZ,fun ρ h H xs us Q v h' s r q P=>by
 unfold uU at q;split at q
 . cases q;obtain⟨u,rfl,r1⟩:=aR r;have r:=r1;rw[rel] at r;subst r;exact .inl ⟨_,rfl,P _ ρ H (.refl _ _) s (by rw[rel])⟩
 . cases q;obtain⟨u,rfl,r1⟩:=aR r;have r:=r1;rw[rel] at r;subst r;exact .inr ⟨_,rfl,P _ ρ H (.refl _ _) s (by rw[rel])⟩
 . exact nomatch q⟩
noncomputable def aN:List PV->PH->RV PV:=λxs h=>match xs with
 | [.tup ys]=> .ok (.tup ys) h
 | [.ref n]=>(match cV h n with
  | some ys=> .ok (.tup ys) h
  | none=> .no)
 | _=> .no
theorem Ih:dm X pg k-> ∃ r,aV X (.type "tuple") r/\Bw X.K r aN:=λA=>⟨_,Gd,fun ρ h H xs us Q v h' s r q P=>by
 unfold aN at q;split at q
 . rename_i ys;cases q;obtain⟨u,rfl,r1⟩:=aR r;have r:=r1;have r':=r;rw[rel] at r;obtain⟨a,vs,rfl,e1,e2⟩:=r;exact⟨a,vs,rfl,.inr ⟨.of e1,P _ ρ H (.refl _ _) s r'⟩⟩
 . split at q
   . rename_i ys e;cases q;obtain⟨u,rfl,r1⟩:=aR r;have r:=r1;obtain⟨a,vs,rfl,_,e1,e2⟩:=s.sq e r;exact⟨a,vs,rfl,.inl ⟨e1,λp hp=>om s e2 P p hp⟩⟩
   . exact nomatch q
 . exact nomatch q⟩
noncomputable def gU:List PV->PH->RV PV:=λxs h=>match xs with
 | [x]=>(match itemsOf h x with
  | some ys=> .ok (.ref h.length) (h++[.lst ys])
  | none=> .no)
 | _=> .no
theorem MR:dm X pg k-> ∃ r,aV X (.type "list") r/\Bw X.K r gU:=λA=>⟨_,sF,fun ρ h H xs us Q v h' s r q P=>by
 unfold gU at q;split at q
 . split at q
   . rename_i ys e;cases q;obtain⟨u,rfl,r1⟩:=aR r;have r:=r1;obtain⟨a,vs,rfl,z,r2⟩:=s.items e r;exact⟨a,vs,rfl,z,λp hp=>d7 s r2 P p hp⟩
   . exact nomatch q
 . exact nomatch q⟩
noncomputable def bY:PV->PH->Bool:=λx h=>match x with
 | .ref n=>(match h[n]? with
  | some (.lst _)=>true
  | _=>false)
 | _=>false
theorem pd{ρ :List Addr}{h:PH}{H:Hp}{x:PV}{v:V}(s:dy K ρ h H)(r:rel K ρ H x v)(e:bY x h=true):Rq K "list" v H:=by
 cases x with
 | ref n =>
  simp only[bY] at e
  split at e
  . rename_i en;obtain⟨a,vs,rfl,_,e1,_⟩:=s.lst en r;exact .inl ⟨rfl,vs,.of e1⟩
  . exact nomatch e
 | _=>exact nomatch e
noncomputable def bu:PV->List PV->PH->RV PV:=λx vs h=>match x,vs with
 | .ref n,[v]=>(match h[n]? with
  | some (.lst xs)=>if xs.length < sizeLine then .ok .non (h.set n (.lst (xs++[v]))) else .no
  | _=> .no)
 | _,_=> .no
theorem DW:dm X pg k-> ∃ r,Jg X "list.append" r/\RD X.K "list" r bu bY:=λA=>⟨_,AZ,fun ρ h H x x' s r e=>pd s r e,fun ρ h H x x' xs us Q v h' s rx rs q P=>by
 unfold bu at q;split at q
 . rename_i n y;split at q
   . rename_i ys en;split at q
     . rename_i hl;cases q;obtain⟨a,vs,rfl,ea,e1,e2⟩:=s.lst en rx;obtain⟨u,rfl,r⟩:=aR rs;have g:Gr ρ H ρ (upd H a (.lst (vs++[u]))):=Gr.write (.inl ⟨_,e1⟩);exact⟨a,vs,u,rfl,rfl,e1,by rw[<- e2.len];exact hl,P _ ρ _ g (s.write en ea rfl rfl ⟨_,bz,av.gr g _ _ (e2.app (av.one r))⟩) (by rw[rel])⟩
     . exact nomatch q
   . exact nomatch q
 . exact nomatch q⟩
end
section
variable{K:Ud}{X:Cx}{pg:Tb}{k:Nat}{tg l:Expr}
theorem uw{pins:List (Addr × Obj)}{σ :L2.St}{H:Hp}{s:Uj}(I:Inv X pins σ H s): ∀ b∈[s.heap.objs.size],nW X pins H b:=λb hb=>by
 have e:b=s.heap.objs.size:=by simpa using hb
 subst e;exact I.Nn (Uo _) (I.bD.fresh (Uo _))
theorem Dr{pins:List (Addr × Obj)}{σ :L2.St}{H:Hp}{s:Uj}{R:It->Hp->Prop}{a:Addr}{xs:List V}(I:Inv X pins σ H s)(hq:iS X.K H a xs)(q:R (Se X.K a) H):wpAny (model X.prog X.w) X.A (abg (.ref a)) (Ow X pins σ tg R) X.xe s:=by
 obtain⟨aj,rv,p,hz⟩:=I.list hq;exact wpAny_pyIter_list p.isList ⟨s.heap.objs.size,[s.heap.objs.size],_,_,H,rfl,I.kept (t':=s.toks) (λb o e=>Uk _ e),AD a _,⟨_,UB _ rfl,rfl,rfl⟩,uw I,q⟩
theorem CH{pins:List (Addr × Obj)}{σ :L2.St}{H:Hp}{s:Uj}{R:It->Hp->Prop}{a:Addr}{xs:List V}(I:Inv X pins σ H s)(hq:fM X.K H a xs)(q:R (CU X.K a) H):wpAny (model X.prog X.w) X.A (abg (.ref a)) (Ow X pins σ tg R) X.xe s:=by
 obtain⟨aj,rv,p,hz⟩:=I.tuple hq;exact XC (show s.heap.IsTuple a aj.toArray from p) ⟨s.heap.objs.size,[s.heap.objs.size],_,_,H,rfl,I.kept (t':=s.toks) (λb o e=>Uk _ e),xB a _,⟨_,UB _ rfl,rfl,rfl⟩,uw I,q⟩
theorem DN{pins:List (Addr × Obj)}{σ :L2.St}{H:Hp}{s:Uj}{R:It->Hp->Prop}{z:Str}{t:Tok}(I:Inv X pins σ H s)(q:R (Rn z) H):wpAny (model X.prog X.w) X.A (abg (.str z t)) (Ow X pins σ tg R) X.xe s:=by
 cases ha:z.cps.all (· < 128)
 . exact wpAny_pyIter_wide ha ⟨s.heap.objs.size,[s.heap.objs.size],_,_,H,rfl,I.kept (t':=s.toks) (λb o e=>Uk _ e),vg z t _ (by decide) (λA' hA=>Walks.strWide hA _ z t) (λ_ _ _ _ _ st h=>wpAny_pyIter_striter_wide st h),⟨_,UB _ rfl,rfl,rfl⟩,uw I,q⟩
 . exact wpAny_pyIter_ascii ha ⟨s.heap.objs.size,[s.heap.objs.size],_,_,H,rfl,I.kept (t':=s.toks) (λb o e=>Uk _ e),vg z t _ (by decide) (λA' hA=>Walks.strAscii hA _ z t) (λ_ _ _ _ _ st h=>wpAny_pyIter_striter_ascii st h),⟨_,UB _ rfl,rfl,rfl⟩,uw I,q⟩
noncomputable def OE(K:Ud)(tl:TE):TI:=fun σ H R=>tl σ H λx H1=>(∃ a xs,x= .ref a/\iS K H1 a xs/\R (Se K a) H1)\/(∃ a xs,x= .ref a/\fM K H1 a xs/\R (CU K a) H1)\/ ∃ z,x= .str z/\R (Rn z) H1
theorem KG{tl:TE}(hl:PE X l tl):PI X tg l (OE X.K tl):=by
 intro pins s σ H R I h;refine cL (hl pins s σ H _ I h) λv s1 ⟨x,H1,I1,r1,q1⟩=>?_;rcases q1 with⟨a,xs,rfl,hq,q⟩ | ⟨a,xs,rfl,hq,q⟩ | ⟨z,rfl,q⟩
 . cases r1;exact Dr I1 hq q
 . cases r1;exact CH I1 hq q
 . obtain⟨t,rfl⟩:=r1;exact DN I1 q
noncomputable def nT(x:PV)(h:PH):RV kQ:=match x with
 | .tup xs=> .ok ⟨none,xs⟩ h
 | .ktup xs=> .ok ⟨none,xs⟩ h
 | .str z=> .ok ⟨none,z.cps.toList.map λc=> .str ⟨#[c]⟩⟩ h
 | .ref n=>(match cV h n with
  | some xs=> .ok ⟨some n,xs⟩ h
  | none=> .no)
 | _=> .no
noncomputable def j7(a:ME):MI:=λc e h=>(a c e h).bind nT
end
section
variable{X:Cx}{pg:Tb}{k:Nat}{tg l:Expr}{ma:ME}{ta:TE}
theorem LY{c:CF}{K:Ud}(s1:SE c K ta ma):SI c K (OE K ta) (j7 ma):=fun ρ h H e σ R it h' s r q P=>by
 obtain⟨x,h1,e1,q⟩:=bind_eq.mp q;refine s1 ρ h H e σ _ x h1 s r e1 λx' ρ1 H1 g1 z1 r1=>?_;have tupc: ∀(xs:List PV),x.seq?=some xs->it=⟨none,xs⟩->h'=h1->(∃ a xs,x'= .ref a/\fM K H1 a xs/\R (CU K a) H1):=λxs ex ei eh=>by
  subst ei eh;obtain⟨a,vs,rfl,zz,rr⟩:=rel.seq ex r1;refine⟨a,vs,rfl,zz,P ρ1 H1 _ g1 z1 λi ρ2 h2 H2 g s _=>?_⟩;have z2:=g.J3 zz;have r2:=av.gr g _ _ rr;refine⟨λy e=>?_,λe=>⟨vs,z2,by rw[e,<- rr.len];exact Uo _⟩⟩;obtain⟨v,d1,d2⟩:=r2.get e;refine⟨⟨vs,v,z2,d1⟩,?_⟩;rintro w H' ⟨rfl,hw⟩;have:=hw vs z2;rw[d1] at this;cases this;exact⟨ρ2,.refl _ _,s,d2⟩
 cases x with
 | tup xs=>cases q;exact .inr (.inl (tupc xs rfl rfl rfl))
 | ktup xs=>cases q;exact .inr (.inl (tupc xs rfl rfl rfl))
 | str z =>
  cases q
  rw[rel] at r1
  refine .inr (.inr ⟨z,r1,P ρ1 H1 _ g1 z1 λi ρ2 h2 H2 g s _=>⟨λy e=>?_,λe=>by show i=z.cps.size;simpa using e⟩⟩)
  rw[UA] at e
  cases q:z.cps.toList[i]? with
  | none=>rw[q] at e;exact nomatch e
  | some c =>
   rw[q] at e
   cases e
   have hc:z.cps[i]?=some c:=by simpa using q
   refine⟨(Array.getElem?_eq_some_iff.mp hc).1,?_⟩
   rintro v H' ⟨rfl,c',e1,rfl⟩
   rw[hc] at e1
   cases e1
   exact⟨ρ2,.refl _ _,s,by rw[rel]⟩
 | ref n =>
  simp only[nT] at q
  split at q
  . rename_i xs en;cases q;obtain⟨a,vs,rfl,ea,zz,rr⟩:=z1.sq en r1;refine .inl ⟨a,vs,rfl,zz,P ρ1 H1 _ g1 z1 λi ρ2 h2 H2 g s hf=>?_⟩;have ea2:=g.pre _ _ ea;have hl:cV h2 n=some xs:=by
     have:h2[n]?=some (.lst xs)\/h2[n]?=some (.kR xs):=by simpa [kQ.jt] using hf
     unfold cV;rcases this with q | q<;>rw[q]
    obtain⟨a',vs2,e3,e4,z2,r2⟩:=s.sq hl (show rel K ρ2 H2 (.ref n) (.ref a) by rw[rel];exact⟨a,ea2,rfl⟩);cases e3;refine⟨λy e=>?_,λe=>⟨vs2,z2,by rw[e,<- r2.len];exact Uo _⟩⟩;obtain⟨v,d1,d2⟩:=r2.get e;refine⟨⟨vs2,v,z2,d1⟩,?_⟩;rintro w H' ⟨rfl,hw⟩;have:=hw vs2 z2;rw[d1] at this;cases this;exact⟨ρ2,.refl _ _,s,d2⟩
  . exact nomatch q
 | _=>exact nomatch q
theorem Kg(ha:JE X pg k l ma):JI X pg k tg l (j7 ma):=⟨λA=>let ⟨_,q1,s1⟩:=ha.h A;⟨_,⟨KG q1.h⟩,LY s1⟩⟩
noncomputable def aE(lo:Int)(n:Nat):List PV:=(Vn n).map λ(i:Nat)=>PV.int (lo+(i:Int))
noncomputable def de(r:MA):MI:=λc e h=>(r c e h).bind λvs h1=>match vs with
 | [.int j]=>if -(2 ^ 62)<=j/\j < 2 ^ 62 then .ok ⟨none,aE 0 j.toNat⟩ h1 else .no
 | _=> .no
theorem AS{K:Ud}{ρ :List Addr}{H:Hp}(lo:Int)(n:Nat):Ti K ρ H (RC lo n) ⟨none,aE lo n⟩:=λi ρ1 h1 H1 g s _=>by
 refine⟨λy e=>?_,λe=>by show n<=i;rw[e];simp[aE]⟩;unfold aE at e;rw[UA] at e;rcases Wg i n with z | z
 . rw[aay z] at e;cases e;exact⟨z,λv H' ⟨e1,e2⟩=>by subst e1;subst e2;exact⟨ρ1,.refl _ _,s,by rw[rel]⟩⟩
 . rw[Wv (by simpa using z)] at e;exact nomatch e
variable{a b:Expr}{p pos:Pos}{mr:MA}
theorem zT(hg:Gl X "range")(ha:JA X pg k [a] mr)(hs:U7 [a] X.env=[(false,eval a X.env)]:=by rfl):JI X pg k tg (.Call (.Name "range" p) [a] [] pos) (de mr):=⟨λA =>
 let ⟨_,q1,s1⟩:=ha.h A;⟨_,⟨zW hg (A.blt _ (by decide)) q1.h hs⟩,fun ρ h H e σ R it h' s r q P=>by
 obtain⟨vs,h1,e1,q⟩:=bind_eq.mp q
 refine s1 ρ h H e σ _ vs h1 s r e1 λus ρ1 H1 g1 z1 r1=>?_
 split at q
 . rename_i j;split at q
   . rename_i hj;cases q;obtain⟨u,rfl,r2⟩:=aR r1;rw[rel] at r2;subst r2;exact⟨j,rfl,hj.1,hj.2,P ρ1 H1 _ g1 z1 (AS 0 _)⟩
   . exact nomatch q
 . exact nomatch q⟩⟩
abbrev MP:=CF->ao->PH->RV (List (Key × PV))
noncomputable def B2:MP:=λ_ _ h=> .ok [] h
noncomputable def fA(a b:ME)(r:MP):MP:=λc e h=>(a c e h).bind λx h1=>match iF x with
 | some key=>(b c e h1).bind λv h2=>(r c e h2).bind λkvs h3=> .ok ((key,v)::kvs) h3
 | none=> .no
noncomputable def bW(kvs more:List (Key × PV)):List (Key × PV):=more.foldl (λacc kv=>cM acc kv.1 kv.2) kvs
noncomputable def uD(r:MP):ME:=λc e h=>(r c e (h++[.dct []])).bind λkvs h1=>if h1[h.length]?=some (.dct [])/\kvs.length<=15 then .ok (.ref h.length) (h1.set h.length (.dct (bW [] kvs))) else .no
structure JP(X:Cx)(pg:Tb)(k:Nat)(pos:Pos)(ks:List (Option Expr))(vs:List Expr)(m:MP):Prop where
 h:dm X pg k-> ∃ t,QP X pos ks vs t/\ ∀ ρ h H e σ Q kvs h',dy X.K ρ h H->ef X.K ρ H e σ ->m (run pg k) e h= .ok kvs h'->(∀ kws ρ' H',Gr ρ H ρ' H'->dy X.K ρ' h' H'->RK X.K ρ' H' kvs kws->Q (kws.map λkv=>(kV kv.1,kv.2)) H')->mK t σ H Q
theorem Kq:JP X pg k pos [] [] B2:=⟨λA=>⟨_,Fb,fun ρ h H e σ Q kvs h' s r q P=>by cases q;exact P [] ρ H (.refl _ _) s .nil⟩⟩
theorem GQ{kk v:Expr}{ks:List (Option Expr)}{vs:List Expr}{mk mv:ME}{mp:MP}(hk:JE X pg k kk mk)(hv:JE X pg k v mv)(hr:JP X pg k pos ks vs mp):JP X pg k pos (some kk::ks) (v::vs) (fA mk mv mp):=⟨λA =>
 let ⟨_,q1,s1⟩:=hk.h A;let ⟨_,q2,s2⟩:=hv.h A;let ⟨_,q3,s3⟩:=hr.h A;⟨_,Dy q1 q2 q3,fun ρ h H e σ Q kvs h' s r q P=>by
 obtain⟨x,h1,e1,q⟩:=bind_eq.mp q
 refine s1 ρ h H e σ _ x h1 s r e1 λx' ρ1 H1 g1 z1 r1=>?_
 split at q
 . rename_i key ek;obtain⟨v,h2,e2,q⟩:=bind_eq.mp q;obtain⟨kvs',h3,e3,q⟩:=bind_eq.mp q;cases q;refine s2 ρ1 h1 H1 e σ _ v h2 z1 (r.gr g1) e2 λv' ρ2 H2 g2 z2 r2=>?_;refine s3 ρ2 h2 H2 e σ _ kvs' _ z2 (r.gr (g1.trans g2)) e3 λkws ρ3 H3 g3 z3 r3=>?_;have:=P ((key,v')::kws) ρ3 H3 ((g1.trans g2).trans g3) z3 (.cons ⟨rfl,rel.gr g3 _ _ r2⟩ r3);rw[fN ek r1];exact this
 . exact nomatch q⟩⟩
theorem RK.merge{K:Ud}{ρ :List Addr}{H:Hp}: ∀{more:List (Key × PV)}{mw:List (Key × V)}{kvs:List (Key × PV)}{kws:List (Key × V)},RK K ρ H more mw->RK K ρ H kvs kws->RK K ρ H (bW kvs more) (dj kws mw)
 | _,_,_,_,.nil,r=>r
 | _,_,_,_,.cons (a:=p) (b:=q) a t,r=>by
  show RK K ρ H (bW (cM _ p.1 p.2) _) (dj (putK _ q.1 q.2) _);refine RK.merge t ?_;rw[<- a.1];exact RK.put r a.2
theorem Hr{ks:List (Option Expr)}{vs:List Expr}{mp:MP}(h:JP X pg k pos ks vs mp)(hall:ks.all (·.isSome)=true)(hl:ks.length=vs.length)(h0:ks≠[])(h15:ks.length<=15):JE X pg k (.Dict ks vs pos) (uD mp):=⟨λA =>
 let ⟨_,q1,s1⟩:=h.h A;⟨_,Ga q1 hall hl h0 h15,fun ρ h H e σ Q v h' s r q P p hp=>by
 obtain⟨kvs,h1,e1,q⟩:=bind_eq.mp q
 split at q
 . rename_i hc;cases q;have g0:Gr ρ H (ρ ++[p]) (upd H p (.dK [])):=Gr.new hp [p];have s0:dy X.K (ρ ++[p]) (h++[.dct []]) (upd H p (.dK [])):=s.new hp ⟨[],bz,.nil⟩;refine s1 (ρ ++[p]) _ _ e σ _ kvs h1 s0 (r.gr g0) e1 λkws ρ1 H1 g1 z1 r1=>?_;have ep:(ρ ++[p])[h.length]?=some p:=by rw[<- s.len,UM (Uo _)];simp
   have ep1:=g1.pre _ _ ep;obtain⟨kw0,e2,e3⟩:=z1.ob h.length _ p hc.1 ep1;cases e3;refine⟨e2,kws,rfl,by rw[<- RK.len r1];exact hc.2,?_⟩;have gw:Gr ρ1 H1 ρ1 (upd H1 p (.dK (dj [] kws))):=Gr.write (.inr ⟨_,e2⟩);refine P _ ρ1 _ ((g0.trans g1).trans gw) (z1.write hc.1 ep1 rfl rfl ⟨_,bz,RK.merge (Paired.jG gw r1) .nil⟩) ?_;rw[rel];exact⟨p,ep1,rfl⟩
 . exact nomatch q⟩⟩
noncomputable def tP:ME:=λ_ _ h=> .ok (.ref h.length) (h++[.dct []])
theorem Ez:JE X pg k (.Dict [] [] pos) tP:=⟨λA=>⟨_,Dh,fun ρ h H e σ Q v h' s r q P p hp=>by
 cases q;refine P _ (ρ ++[p]) _ (Gr.new hp [p]) (s.new hp ⟨[],bz,.nil⟩) ?_;rw[rel];exact⟨p,by rw[<- s.len,UM (Uo _)];simp,rfl⟩⟩⟩
noncomputable def rW(kvs:List (Key × PV))(a:ME):ME:=λc e h=>(a c e h).bind λx h1=>match iF x with
 | some key=>(match bT kvs key with
  | some v=> .ok v h1
  | none=> .no)
 | none=> .no
variable{x:Str}{kvs:List (Key × PV)}{i:Expr}{mi:ME}{pos':Pos}
theorem Fg(hd:pg.yP x=some kvs)(hg:Gl X x)(hi:JE X pg k i mi)(hs:GU i)(hdb:(x == ("__debug__" :Str))=false:=by decide):JE X pg k (.Subscript (.Name x pos') i pos) (rW kvs mi):=⟨λA =>
 let ⟨a,kws,e1,e2,e3⟩:=A.yP x kvs hd;let ⟨_,q1,s1⟩:=hi.h A;⟨_,HV e2 (Ff hg e1 hdb) q1 hs,fun ρ h H e σ Q v h' s r q P=>by
 obtain⟨y,h1,d1,q⟩:=bind_eq.mp q
 refine s1 ρ h H e σ _ y h1 s r d1 λy' ρ1 H1 g1 z1 r1=>?_
 split at q
 . rename_i key ek;split at q
   . rename_i w ew;cases q;obtain⟨u,f1,f2⟩:=RK.some (e3 ρ1 H1) ew;exact⟨key,u,fN ek r1,f1,P _ ρ1 H1 g1 z1 f2⟩
   . exact nomatch q
 . exact nomatch q⟩⟩
noncomputable def yR(d a b:ME):ME:=λc e h=>(d c e h).bind λx h1=>if gF h1 x=true then(a c e h1).bind (λy h2=>(b c e h2).bind λz h3=>match x,iF y with
 | .ref n,some key=>(match h3[n]? with
  | some (.dct kvs)=> .ok ((bT kvs key).getD z) h3
  | _=> .no)
 | _,_=> .no) else .no
theorem Gq{o e f:Expr}{md me mf:ME}{apos cpos:Pos}(ho:JE X pg k o md)(he:JE X pg k e me)(hf:JE X pg k f mf)(m:M2 X o "get" apos e f cpos):JE X pg k (.Call (.Attribute o "get" apos) [e,f] [] cpos) (yR md me mf):=⟨λA =>
 let ⟨_,q1,s1⟩:=ho.h A;let ⟨_,q2,s2⟩:=he.h A;let ⟨_,q3,s3⟩:=hf.h A;⟨_,CS A.hu q1 q2 q3 m,fun ρ h H e σ Q v h' s r q P=>by
 obtain⟨x,h1,e1,q⟩:=bind_eq.mp q
 refine s1 ρ h H e σ _ x h1 s r e1 λx' ρ1 H1 g1 z1 r1=>?_
 split at q
 . rename_i hd;obtain⟨y,h2,e2,q⟩:=bind_eq.mp q;obtain⟨z,h3,e3,q⟩:=bind_eq.mp q;cases x with
   | ref n =>
    rw[rel] at r1
    obtain⟨a,ea,rfl⟩:=r1
    refine⟨a,rfl,?_,?_⟩
    . simp only[gF] at hd;split at hd
      . rename_i kvs0 en;obtain⟨kws,d1,_⟩:=z1.ob n _ a en ea;exact .inl ⟨kws,.inl d1⟩
      . exact nomatch hd
    refine s2 ρ1 h1 H1 e σ _ y h2 z1 (r.gr g1) e2 λy' ρ2 H2 g2 z2 r2=>?_
    refine s3 ρ2 h2 H2 e σ _ z h3 z2 (r.gr (g1.trans g2)) e3 λz' ρ3 H3 g3 z3 r3=>?_
    cases ek:iF y with
    | none=>simp only[ek] at q;exact nomatch q
    | some key =>
     simp only[ek] at q
     split at q
     . rename_i kvs en;cases q;obtain⟨kws,d1,d2⟩:=z3.ob n _ a en (g3.pre _ _ (g2.pre _ _ ea));have:=fN ek r2;subst this;refine⟨_,j6.k (k:=key) d1,P _ ρ3 H3 ((g1.trans g2).trans g3) z3 ?_⟩;have:=RK.val key d2;cases p1:bT kvs key<;>cases p2:gX kws key<;>rw[p1,p2] at this<;>first | exact r3 | exact this | exact VR this
     . exact nomatch q
   | _=>exact nomatch hd
 . exact nomatch q⟩⟩
end
section
variable{K:Ud}{X:Cx}{pg:Tb}{k:Nat}
noncomputable def pairP?:PV->Option (Key × PV)
 | .tup [a,v]=>(iF a).map λk=>(k,v)
 | _=>none
noncomputable def jn:List PV->Option (List (Key × PV))
 | []=>some []
 | x::r=>(match pairP? x,jn r with
  | some p,some ps=>some (p::ps)
  | _,_=>none)
section
variable{prog:UN}{w:World}{A:U6}{E:Value->Uj->Prop}{s:Uj}
theorem oP{p:Addr}{kvs:List (Key × Value)}{R:Value->Uj->Prop}(hS:(p == Vx)=false)(hp:s.heap.DictOf (aH prog w) p kvs)(hz:kvs.length<=sizeLine)
  (q: ∀ g:Heap,g.DictOf (aH prog w) s.heap.objs.size (merged [] kvs)->(∀ b o,s.heap.get? b=some o->g.get? b=some o)->R (.ref s.heap.objs.size) { s with heap:=g }) :
  wpAny (model prog w) A (call (.type "dict") [.ref p]) R E s:=by
 let g0:=s.heap.push { cls:= .type "dict",data:= .dict #[] }
 have up: ∀ b o,s.heap.get? b=some o->g0.get? b=some o:=λb o e=>Uk _ e;have dn:g0.DictOf (aH prog w) s.heap.objs.size []:=ZW s.heap;have dp:g0.DictOf (aH prog w) p kvs:=hp.at λo e=>up p o e;have ne:s.heap.objs.size≠p:=λe=>by
  obtain⟨o,_,_,ho,_⟩:=hp;exact absurd (Ux ho) (by rw[e];exact Vb _)
 refine callType_codes (Q₁ :=λz u=>z= .ref s.heap.objs.size/\u={ s with heap:=g0 }) F.kt_called_dict (F.kt_typeCall_dict_1 _) F.entry_dict_init (kt_code_dict_new _ ⟨rfl,rfl⟩) ?_;rintro obj s1 ⟨rfl,rfl⟩;refine⟨dn.typeIs,F.args_dict_init_2 _ _,?_⟩
 with_unfolding_all refine Ue (m:=Zf _ _) (Ue (Z5 dn.typeIs (Us ?_)))
 show wpAny _ _ (WQ "dict.__init__" s.heap.objs.size (.ref p) [] .none) _ _ _;unfold WQ Builtin.Dict.merge Builtin.Dict.readDirectly;refine Ue (Xh dp.typeIs ?_);rw[if_neg (by decide)];refine Ue (Ue (Ue (wpAny_isInstance dp.typeIs isSubtype_dict_dict ?_)));simp only[if_false,Bool.not_true,Wq];refine Ue (ZV dp.typeIs F.slot_dict_iter.lookup (Us ?_));simp only[if_true,beq_self_eq_true];refine Ue (Us (wpAny_mergeDict (hsz:=by simpa using hz) ne hS dn dp λg dg _ sb=>?_));show wpAny _ _ (Ze s.heap.objs.size [] >>= _) _ _ { s with heap:=g };exact Ue (Us (Us ⟨rfl,q g dg λb o e=>(sb.2 b (UK (Ux e))).trans (up b o e)⟩))
end
noncomputable def K3:List V->Hp->VK->Prop:=λxs H Q=> ∃ p kvs,xs=[.ref p]/\H p=some (.dK kvs)/\kvs.length<=sizeLine/\ ∀ d,H d=none->Q (.ref d) (upd H d (.dK (dj [] kvs)))
theorem xP:aV X (.type "dict") K3:=by
 intro pins s σ H xs us Q I r h;obtain⟨p,kvs,rfl,hp,hz,q⟩:=h;obtain⟨u,rfl,ru⟩:=vals1 r;cases(show u=UJ p from ru);obtain⟨z1,n1,vs,r1,d1⟩:=vY I.bD hp;refine oP n1 d1 (by rw[<- r1.length];exact z1) λg dd keep=>?_;have hle:(dj [] kvs).length<=sizeLine:=by have:=eP kvs [];simp at this;omega
 obtain⟨hn,I'⟩:=I.mJ (a:=s.heap.objs.size) (o:= .dK (dj [] kvs)) (t':=s.toks) keep (V6 (Uo _)) (tU hle (beq_eq_false_iff_ne.mpr (V3 (UK I.big))) (KV.vi r1) dd);exact⟨.ref _,_,I',rfl,q _ hn⟩
noncomputable def ia:List PV->PH->RV PV:=λxs h=>match xs with
 | [.tup ys]=>(match jn ys with
  | some kvs=>if ys.length < sizeLine then .ok (.ref h.length) (h++[.dct (bW [] kvs)]) else .no
  | none=> .no)
 | [.ref n]=>(match h[n]? with
  | some (.dct kvs)=>if kvs.length<=sizeLine then .ok (.ref h.length) (h++[.dct (bW [] kvs)]) else .no
  | _=> .no)
 | _=> .no
theorem FW{ρ :List Addr}{H:Hp}{x:PV}{p:Key × PV}{v:V}(e:pairP? x=some p)(r:rel K ρ H x v): ∃ q:Key × V,rG H v q/\p.1=q.1/\rel K ρ H p.2 q.2:=by
 cases x with
 | tup xs =>
  match xs,e with
  | [a,w],e =>
   simp only[pairP?] at e
   cases q:iF a with
   | none=>rw[q] at e;exact nomatch e
   | some key =>
    rw[q] at e
    cases e
    rw[rel] at r
    obtain⟨b,vs,rfl,e1,e2⟩:=r
    obtain⟨u,u',rfl,r1,r2⟩:=lq e2
    have:=fN q r1
    subst this
    exact⟨(key,u'),⟨b,rfl,e1⟩,rfl,r2⟩
 | _=>exact nomatch e
theorem vZ{ρ :List Addr}{H:Hp}: ∀{xs:List PV}{kvs:List (Key × PV)}{vs:List V},jn xs=some kvs->av K ρ H xs vs-> ∃ kws,Vt (rG H) vs kws/\RK K ρ H kvs kws
 | [],kvs,vs,e,r=>by cases e;rw[aI] at r;subst r;exact⟨[],.nil,.nil⟩
 | x::t,kvs,vs,e,r=>by
  simp only[jn] at e;split at e
  . rename_i p ps e1 e2;cases e;obtain⟨v,w,rfl,r1,r2⟩:=aD.mp r;obtain⟨q,a,b⟩:=FW e1 r1;obtain⟨qs,c,d⟩:=vZ e2 r2;exact⟨q::qs,.cons a c,.cons b d⟩
  . exact nomatch e
theorem yy{ρ :List Addr}{h:PH}{H:Hp}{kvs:List (Key × PV)}{kws:List (Key × V)}{Q:VK}(s:dy K ρ h H)(r:RK K ρ H kvs kws)(P:eE K ρ H (.ref h.length) (h++[.dct kvs]) Q)(p:Addr)(hp:H p=none):Q (.ref p) (upd H p (.dK kws)):=by
 refine P _ (ρ ++[p]) _ (Gr.new hp [p]) (s.new hp ⟨kws,bz,Paired.jG (Gr.new hp [p]) r⟩) ?_;rw[rel];exact⟨p,by rw[<- s.len,UM (Uo _)];simp,rfl⟩
theorem M9:dm X pg k-> ∃ r,aV X (.type "dict") r/\Bw X.K r ia:=λA=>⟨_,(BW A.calm).or xP,fun ρ h H xs us Q v h' s r q P=>by
 unfold ia at q;split at q
 . rename_i ys;split at q
   . rename_i kvs e;split at q
     . rename_i hl;cases q;obtain⟨u,rfl,r1⟩:=aR r;rw[rel] at r1;obtain⟨a,vs,rfl,e1,e2⟩:=r1;obtain⟨kws,c,d⟩:=vZ e e2;exact .inl ⟨a,vs,kws,rfl,e1,c,by rw[<- e2.len];exact hl,λp hp=>yy s (RK.merge d .nil) P p hp⟩
     . exact nomatch q
   . exact nomatch q
 . rename_i n;split at q
   . rename_i kvs en;split at q
     . rename_i hl;cases q;obtain⟨u,rfl,r1⟩:=aR r;rw[rel] at r1;obtain⟨a,ea,rfl⟩:=r1;obtain⟨kws,e1,e2⟩:=s.ob n _ a en ea;exact .inr ⟨a,kws,rfl,e1,by rw[<- RK.len e2];exact hl,λp hp=>yy s (RK.merge e2 .nil) P p hp⟩
     . exact nomatch q
   . exact nomatch q
 . exact nomatch q⟩
theorem ib{α :Type}{le: α -> α ->Prop}: ∀{l1 l2:List α},(∀ a∈l1,∀ b∈l1,le a b->le b a->a=b)->l1.Perm l2->l1.Pairwise le->l2.Pairwise le->l1=l2
 | [],l2,_,p,_,_=>List.Perm.nil_eq p
 | a::r,[],_,p,_,_=>absurd p.length_eq (by simp)
 | a::r,b::r',anti,p,h1,h2=>by
  rw[YM] at h1 h2;have hb:b∈a::r:=p.mem_iff.mpr Uv;have e:a=b:=by
   rcases Uy.mp (p.mem_iff.mp (Uv:a∈a::r)) with e | m
   . exact e
   . rcases Uy.mp hb with e | m'
     . exact e.symm
     . exact anti a Uv b hb (h1.1 b m') (h2.1 a m)
  subst e;rw[ib (λx hx y hy=>anti x (Uz _ hx) y (Uz _ hy)) (List.Perm.cons_inv p) h1.2 h2.2]
noncomputable def oC(a b:Str):Bool:= !decide (iT b a)
noncomputable def cv(ss:List Str):List Str:=ss.mergeSort oC
theorem hX(a b c:Str)(h1:oC a b=true)(h2:oC b c=true):oC a c=true:=by
 unfold oC at h1 h2 ⊢;simp only[V9,decide_eq_false_iff_not] at h1 h2 ⊢;intro h;by_cases e:b=a
 . subst e;exact h2 h
 . rcases mP e with z | z
   . exact h1 z
   . exact h2 (jK h z)
theorem jL(a b:Str):(oC a b||oC b a)=true:=by
 unfold oC;by_cases h:iT b a
 . simp [h,jS h]
 . simp [h]
theorem vQ {a b : Str} (h1 : oC a b = true) (h2 : oC b a = true) : a = b := by
  unfold oC at h1 h2;simp only [V9, decide_eq_false_iff_not] at h1 h2
  exact Decidable.byContradiction fun e => by rcases mP e with z | z; · exact h2 z
                                              . exact h1 z
theorem zS: ∀ {r:List Str} {p:Str},risingS p r=true->(p::r).Pairwise λa b=>oC a b=true:=by
 intro r
 induction r with
 | nil=>intro p _;exact Zv _ _
 | cons x r ih =>
  intro p h
  simp only[risingS,UD] at h
  have h1:oC p x=true:=by
   have:=h.1;rw[ltCps_eq] at this;exact this
  have h2:=ih h.2
  refine YM.mpr ⟨λy hy=>?_,h2⟩
  rcases Uy.mp hy with rfl | m
  . exact h1
  . exact hX _ _ _ h1 ((YM.mp h2).1 y m)
theorem AE{ss:List Str}(h:Y4 ss=true):ss.Pairwise λa b=>oC a b=true:=by
 cases ss with
 | nil=>exact .nil
 | cons p r=>exact zS h
theorem pS{ss ss':List Str}(p:ss'.Perm ss)(h:Y4 ss'=true):ss'=cv ss :=
 ib (le:=λa b=>oC a b=true) (λ_ _ _ _ h1 h2=>vQ h1 h2) (p.trans (Xn ss oC).symm) (AE h) (WR hX (λa b=>by simpa using jL a b) ss)
noncomputable def fe:List PV->Option (List Str)
 | []=>some []
 | .str x::r=>(fe r).map (x:: ·)
 | _=>none
theorem fc: ∀{xs:List PV}{ss:List Str},fe xs=some ss->xs=ss.map PV.str
 | [],bs,e=>by cases e;rfl
 | .str b::r,bs,e=>by
  rw[fe] at e;cases q:fe r with
  | none=>rw[q] at e;exact nomatch e
  | some cs=>rw[q] at e;cases e;rw[fc q];rfl
 | .non::_,_,e=>nomatch e
 | .bl _::_,_,e=>nomatch e
 | .int _::_,_,e=>nomatch e
 | .tup _::_,_,e=>nomatch e
 | .ktup _::_,_,e=>nomatch e
 | .ref _::_,_,e=>nomatch e
 | .ty _::_,_,e=>nomatch e
theorem cF: ∀(ss:List Str),fe (ss.map PV.str)=some ss
 | []=>rfl
 | b::r=>by rw[Ul,fe,cF r];rfl
theorem bX{ρ :List Addr}{H:Hp}: ∀{ss:List Str}{vs:List V},av K ρ H (ss.map PV.str) vs↔vs=ss.map V.str
 | [],vs=>aI
 | b::t,vs=>by
  rw[Ul,aD];constructor
  . rintro ⟨v,w,rfl,r1,r2⟩;rw[rel] at r1;rw[r1,bX.mp r2];rfl
  . rintro rfl;exact⟨.str b,t.map V.str,rfl,by rw[rel],bX.mpr rfl⟩
noncomputable def wM:List PV->Option (List (Str × Int))
 | []=>some []
 | .tup [.str x,.int i]::r=>(wM r).map ((x,i):: ·)
 | _=>none
noncomputable def cO(q:Str × Int):PV:= .tup [.str q.1,.int q.2]
theorem wd: ∀(ps:List (Str × Int)),wM (ps.map cO)=some ps
 | []=>rfl
 | b::r=>by rw[Ul,cO,wM,wd r];rfl
theorem GL: ∀{xs:List PV}{ps:List (Str × Int)},wM xs=some ps->xs=ps.map cO:=by
 intro xs
 induction xs with
 | nil=>intro ps e;cases e;rfl
 | cons x r ih =>
  intro ps e
  unfold wM at e
  split at e
  . rename_i h;cases h
  . rename_i y i r' h;cases h;cases q:wM r with
    | none=>rw[q] at e;exact nomatch e
    | some cs=>rw[q] at e;cases e;rw[ih q];rfl
  . exact nomatch e
theorem k8{ρ :List Addr}{H:Hp}: ∀{ps:List (Str × Int)}{vs:List V},av K ρ H (ps.map cO) vs↔Vt (pD H) vs ps
 | [],vs=>⟨λh=>by rw[UU,aI] at h;subst h;exact .nil,λh=>by cases h;exact aI.mpr rfl⟩
 | b::t,vs=>by
  rw[Ul,aD];constructor
  . rintro ⟨v,w,rfl,r1,r2⟩;rw[cO,rel] at r1;obtain⟨a,us,rfl,e1,e2⟩:=r1;obtain⟨u,u',rfl,d1,d2⟩:=lq e2;rw[rel] at d1;rw[rel] at d2;subst d1 d2;exact .cons ⟨a,rfl,e1⟩ (k8.mp r2)
  . intro h;cases h with
    | cons h1 h2 =>
     obtain⟨a,rfl,e1⟩:=h1
     refine⟨.ref a,_,rfl,?_,k8.mpr h2⟩
     rw[cO,rel]
     exact⟨a,_,rfl,e1,aD.mpr ⟨_,_,rfl,by rw[rel],av.one (by rw[rel])⟩⟩
theorem Dl: ∀{ps:List (Str × Int)},(ps.map (·.1)).Nodup-> ∀{a b:Str × Int},a∈ps->b∈ps->a.1=b.1->a=b
 | [],_,a,b,ha,_,_=>by cases ha
 | p::r,nd,a,b,ha,hb,e=>by
  rw[Ul] at nd;rw[Wz] at nd;rcases Uy.mp ha with ha | ha<;>rcases Uy.mp hb with hb | hb
  . rw[ha,hb]
  . exact absurd (by rw[<- ha,e];exact UZ.mpr ⟨b,hb,rfl⟩) nd.1
  . exact absurd (by rw[<- hb,<- e];exact UZ.mpr ⟨a,ha,rfl⟩) nd.1
  . exact Dl nd.2 ha hb e
noncomputable def la(ps:List (Str × Int)):List (Str × Int):=ps.mergeSort λa b=>oC a.1 b.1
theorem BB{ps ps':List (Str × Int)}(nd:(ps.map (·.1)).Nodup)(p:ps'.Perm ps)(h:(ps'.map (·.1)).Pairwise iT):ps'=la ps:=by
 have h2:ps'.Pairwise λa b=>oC a.1 b.1=true:=by
  rw[WG] at h;exact h.imp λ{a b} z=>by unfold oC;simp[jS z]
 refine ib (le:=λa b=>oC a.1 b.1=true) (λa ha b hb z1 z2=>?_) (p.trans (Xn ps _).symm) h2 (WR (λa b c=>hX a.1 b.1 c.1) (λa b=>by simpa using jL a.1 b.1) ps);have e:=vQ z1 z2;have ha':=p.mem_iff.mp ha;have hb':=p.mem_iff.mp hb;exact Dl nd ha' hb' e
noncomputable def fF:List PV->PH->RV PV:=λxs h=>match xs with
 | [x]=>(match itemsOf h x with
  | some ys=>(match x with
   | .ref _=>(match fe ys with
    | some ss=>if ss.length < 64 then .ok (.ref h.length) (h++[.lst ((cv ss).map PV.str)]) else .no
    | none=>(match wM ys with
     | some ps=>if ps.length < 64/\(ps.map (·.1)).Nodup then .ok (.ref h.length) (h++[.lst ((la ps).map cO)]) else .no
     | none=> .no))
   | _=> .no)
  | none=>(match x with
   | .ref n=>(match h[n]? with
    | some (.dct kvs)=>(match fe (kvs.map λkv=>match kv.1 with | .inl i=> .int i | .inr z=> .str z) with
     | some ss=>if ss.length < 64 then .ok (.ref h.length) (h++[.lst ((cv ss).map PV.str)]) else .no
     | none=> .no)
    | _=> .no)
   | _=> .no))
 | _=> .no
theorem RK.keys{ρ :List Addr}{H:Hp}: ∀{kvs:List (Key × PV)}{kws:List (Key × V)},RK K ρ H kvs kws->kws.map (·.1)=kvs.map (·.1)
 | _,_,.nil=>rfl
 | _,_,.cons a t=>by rw[Ul,Ul,RK.keys t,a.1]
theorem keys_str: ∀{kvs:List (Key × PV)}{ss:List Str},(kvs.map λkv=>(match kv.1 with | .inl i=>PV.int i | .inr z=>PV.str z))=ss.map PV.str->kvs.map (·.1)=ss.map VZ
 | [],ss,e=>by cases ss with | nil=>rfl | cons=>exact nomatch e
 | (.inl i,v)::r,ss,e=>by cases ss with | nil=>exact nomatch e | cons=>simp at e
 | (.inr z,v)::r,ss,e=>by
  cases ss with
  | nil=>exact nomatch e
  | cons y t =>
   rw[Ul,Ul,abD] at e
   rw[Ul,Ul,keys_str e.2]
   cases e.1;rfl
theorem vt(A:dm X pg k):Bw X.K (λxs H Q=>Dp X.K xs H Q\/(BV xs H Q\/wF X.K xs H Q)) fF:=fun ρ h H xs us Q v h' s r q P=>by
 unfold fF at q;split at q
 . rename_i x;obtain⟨u,rfl,r1⟩:=aR r;split at q
   . rename_i ys e;split at q
     . rename_i n;obtain⟨a,vs,rfl,_,z,r2⟩:=s.sq e r1;split at q
       . rename_i ss es;split at q
         . rename_i hl;cases q;rw[fc es,bX] at r2;subst r2;refine .inl ⟨a,ss,rfl,z,hl,λl ss' hp pm so=>?_⟩;rw[pS pm so];exact d7 s (bX.mpr rfl) P l hp
         . exact nomatch q
       . split at q
         . rename_i ps eps;split at q
           . rename_i hl;cases q;rw[GL eps,k8] at r2;refine .inr (.inr ⟨a,vs,ps,rfl,z,r2,hl.1,hl.2,λl ys' ps' hp pm so pr=>?_⟩);have:=BB hl.2 pm so;subst this;exact d7 s (k8.mpr pr) P l hp
           . exact nomatch q
         . exact nomatch q
     . exact nomatch q
   . split at q
     . rename_i n _;split at q
       . rename_i kvs en;split at q
         . rename_i ss es;split at q
           . rename_i hl;cases q;rw[rel] at r1;obtain⟨a,ea,rfl⟩:=r1;obtain⟨kws,e1,e2⟩:=s.ob n _ a en ea;refine .inr (.inl ⟨a,kws,ss,rfl,e1,by rw[RK.keys e2];exact keys_str (fc es),hl,λl ss' hp pm so=>?_⟩);rw[pS pm so];exact d7 s (bX.mpr rfl) P l hp
           . exact nomatch q
         . exact nomatch q
       . exact nomatch q
     . exact nomatch q
 . exact nomatch q
theorem jP.of{P:UN}{w:World}{K:Ud}{mg:Str->Option Value}{base:Heap}{pg:Tb}{f:String}{d:Df}(b:MS)(st:Stmt)(N:List Str)(e:d.body=b)(a:At K mg (UC f) st)(S:d9 N d.ps (ax st))(hl:N.length=d.ps.length+d.nl)
  (hb: ∀(kV doc pm:Value)(an:Option Addr)(cdv ct:Value)(us:List Value),us.length=d.ps.length->WV (Vu (UC f) (UC f) (cJ st) (bq st) (ax st) .none kV doc pm an cdv ct) ⟨us,[]⟩=pure (d.ps.zip us))
  (h: ∀(fa:Addr)(cdv:Value)(A:U6)(outer:List Env)(s:Uj)(H:Hp)(E:XK)(k:Nat),yF (j5 ue P w K mg base N (UC f) (ax st) fa cdv A outer s H E).qy pg k (bq st) b):jP P w K mg base pg f d :=
 ⟨st,N,a,S,hl,hb,by rw[e];exact h⟩
end
section
variable{X:Cx}{pins:List (Addr × Obj)}{σ :L2.St}{H:Hp}{s:Uj}{h':Heap}
theorem Kd{turned:List Addr}{t':Nat}(I:Inv X pins σ H s)(kp: ∀ b o,b ∉ turned->s.heap.get? b=some o->h'.get? b=some o)(fp: ∀ b∈turned,nW X pins H b):Inv X pins σ H { s with heap:=h',toks:=t' }:=by
 have away: ∀ b u,H b=some u->b ∉ turned:=λb u e m=>by
  have:=(fp b m).1;rw[e] at this;exact nomatch this
 refine I.step (g':=s.gens) (d':=s.drawn) (ch:=turned) (λb m=>?_) (λb o _ _ n e _=>kp b o n e) (λb o _ _ n e _=>⟨o.slots,kp b o n e⟩) (λ_ _ _ _ e=>e) (λb o n e=>⟨o,kp b o n e⟩) (λ_ _ e=>e) (λ_ _ _ e=>e) (λb ps e=>⟨#[],by rw[e];simp⟩) (λm hm=>?_) (λb u e=>?_) I.bare
 . obtain⟨_,a2,_,a4,a5,a6⟩:=fp b m;exact⟨a4,a2,a5,a6⟩
 . obtain⟨o,es,ep,ho,r⟩:=hm;exact⟨o,es,ep,kp _ o (λm=>(fp _ m).2.1 rfl) ho,r⟩
 . refine(I.bD b u e).uk (λc v hc q=>kp c v ?_ q) (λ_ q=>q) λ_ _ q=>q;rcases hc with z | z
   . rw[z];exact away b u e
   . exact away c _ z
theorem zN{turned:List Addr}{t':Nat}{p:Addr}{vs:List V}(I:Inv X pins σ H s)(kp: ∀ b o,b ∉ turned->s.heap.get? b=some o->h'.get? b=some o)(fp: ∀ b∈turned,nW X pins H b)(hp:s.heap.objs.size<=p)
  (new:ba X.prog X.w (upd H p (.tup vs)) h' p (.tup vs)):Inv X pins σ (upd H p (.tup vs)) { s with heap:=h',toks:=t' }:=by
 have hn:H p=none:=I.bD.fresh hp;have away: ∀ b u,H b=some u->b ∉ turned:=λb u e m=>by
  have:=(fp b m).1;rw[e] at this;exact nomatch this
 have old: ∀ b o,s.heap.get? b=some o->b≠p:=λb o e z=>absurd (Ut (Ux e) (z ▸ hp)) (Vb _);refine I.step (g':=s.gens) (d':=s.drawn) (ch:=turned) (λb m=>?_) (λb o _ _ n e _=>kp b o n e) (λb o _ _ n e _=>⟨o.slots,kp b o n e⟩) (λb o _ e n=>by rw[aB (old b o e)];exact n) (λb o n e=>⟨o,kp b o n e⟩)
  (λb xs e=>by rw[aB (aC e hn)];exact e) (λb o u e=>by rw[aB (aC e hn)];exact e) (λb ps e=>⟨#[],by rw[aB (aC e hn),e];simp⟩) (λm hm=>?_) (λb u e=>?_) I.bare
 . obtain⟨_,a2,_,a4,a5,a6⟩:=fp b m;exact⟨a4,a2,a5,a6⟩
 . obtain⟨o,es,ep,ho,r⟩:=hm;exact⟨o,es,ep,kp _ o (λm=>(fp _ m).2.1 rfl) ho,r⟩
 . by_cases hb:b=p
   . subst hb;rw[bz] at e;cases e;exact new
   . rw[aB hb] at e;refine(I.bD b u e).uk (λc v hc q=>kp c v ?_ q) (λc q=>by rw[aB (aC q hn)];exact q) λc xs q=>by rw[aB (aC q hn)];exact q
     rcases hc with z | z
     . rw[z];exact away b u e
     . exact away c _ z
end
noncomputable def Tg (K : Ud) (a1 a2 : Addr) : It :=
  ⟨λi H => ∃ xs ys x y, fM K H a1 xs /\ fM K H a2 ys /\ xs[i]? = some x /\ ys[i]? = some y,
   λi H v H' => ∃ p x y, H p = none /\ v = .ref p /\ H' = upd H p (.tup [x, y]) /\ (∀ xs, fM K H a1 xs -> xs[i]? = some x) /\ ∀ ys, fM K H a2 ys -> ys[i]? = some y,
   λi H => ∃ xs ys, fM K H a1 xs /\ fM K H a2 ys /\ (xs.length <= i ∨ ys.length <= i)⟩
theorem Aj {h h':Heap} {z TI TO i1 i2 l1 l2:Addr} {k:Nat} (Z:wj h z TI TO i1 i2 l1 l2 k) (kp: ∀ b∈[z,TI,TO,i1,i2],∀ o,h.get? b=some o->h'.get? b=some o):wj h' z TI TO i1 i2 l1 l2 k:=by
 obtain ⟨a,b,⟨u,v,c⟩,⟨o1,d1,d2⟩,⟨o2,e1,e2⟩⟩:=Z;exact ⟨kp _ (by simp) _ a,kp _ (by simp) _ b,⟨u,v,kp _ (by simp) _ c⟩,⟨o1,kp _ (by simp) _ d1,d2⟩,⟨o2,kp _ (by simp) _ e1,e2⟩⟩
theorem Dq{P:UN}{w:World}{K:Ud}{els:List Expr}{j:Nat}{pos:Pos}{z TI TO i1 i2 a1 a2:Addr}(D:abb z TI TO i1 i2 a1 a2) :
  Turn P w K (.Tuple els j pos) (Tg K a1 a2) [z,TI,TO,i1,i2] z (λi h=>wj h z TI TO i1 i2 a1 a2 i) where
 mem:=by simp
 obj:=λi h Z b hb=>by
  obtain⟨e1,e2,⟨u,v,e3⟩,⟨o4,e4,_,d4⟩,⟨o5,e5,_,d5⟩⟩:=Z;simp only[U2,or_false,Uy] at hb;rcases hb with rfl | rfl | rfl | rfl | rfl
  . exact⟨_,e1,λv q=>nomatch q⟩
  . exact⟨_,e2,λv q=>nomatch q⟩
  . exact⟨_,e3,λv q=>nomatch q⟩
  . exact⟨_,e4,λv q=>by rw[d4] at q;exact nomatch q⟩
  . exact⟨_,e5,λv q=>by rw[d5] at q;exact nomatch q⟩
 keep:=λi h h' Z kp=>Aj Z kp
 item:=by
  intro X hP hw hK hc i pins s σ H E I hf Z hg;subst hP hw hK;obtain⟨xs,ys,x,y,s1,s2,ex,ey⟩:=hg;obtain⟨us,ru,pu,_⟩:=I.tuple s1;obtain⟨ws,rw',pw,_⟩:=I.tuple s2;obtain⟨ux,eu,rx⟩:=ru.get ex;obtain⟨uy,ew,ry⟩:=rw'.get ey;refine pP D Z pu pw (by simpa using eu) (by simpa using ew) λh1 f1 f2 f3 f4 f5 f6 f7=>⟨_,rfl,?_⟩
  refine wpAny_letOwnedTupleGo_zip (s:={ s with heap:=h1 }) f1 λh2 g1 g2=>?_;have ex1:=g2.extBut;have zlt:z < s.heap.objs.size:=Ux Z.zQ;have pz:s.heap.objs.size≠z:=Xg zlt;have new:XT h2 s.heap.objs.size ux uy:=ex1 _ _ pz f6;have hn:H s.heap.objs.size=none:=I.bD.fresh (Uo _);have I2:Inv X pins σ (upd H s.heap.objs.size (.tup [x,y])) { s with heap:=h2,toks:=s.toks }:=by
   refine zN (turned:=[z,TO,i1,i2]) I (λb o nb e=>?_) (λb hb=>hf b ?_) (Uo _) ?_
   . simp only[Uy,U2,or_false,not_or] at nb;exact ex1 _ _ nb.1 (f7 b o nb.1 nb.2.1 nb.2.2.1 nb.2.2.2 e)
   . simp only[Uy,U2,or_false] at hb ⊢;rcases hb with rfl | rfl | rfl | rfl<;>simp
   . exact⟨by show 2<=sizeLine;decide,[ux,uy],.cons rx (.cons ry .nil),_,new,rfl,_,rfl,rfl⟩
  refine⟨.ref s.heap.objs.size,upd H s.heap.objs.size (.tup [x,y]),I2,rfl,⟨_,x,y,hn,rfl,rfl,λxs' q=>?_,λys' q=>?_⟩,?_,λb hb=>?_⟩
  . rw[I.nv q s1];exact ex
  . rw[I.nv q s2];exact ey
  . obtain⟨o4,e4,c4⟩:=f4;obtain⟨o5,e5,c5⟩:=f5;exact⟨g1,ex1 _ _ D.TIz f2,⟨_,_,ex1 _ _ D.TOz f3⟩,⟨o4,ex1 _ _ D.i1z e4,c4⟩,⟨o5,ex1 _ _ D.i2z e5,c5⟩⟩
  . have hb0:=(hf b hb).1;have: ∃ o,s.heap.get? b=some o:=by
     obtain⟨e1,e2,⟨u,v,e3⟩,⟨o4,e4,_⟩,⟨o5,e5,_⟩⟩:=Z;simp only[U2,or_false,Uy] at hb;rcases hb with rfl | rfl | rfl | rfl | rfl
     . exact⟨_,e1⟩
     . exact⟨_,e2⟩
     . exact⟨_,e3⟩
     . exact⟨_,e4⟩
     . exact⟨_,e5⟩
    obtain⟨o,eo⟩:=this;rw[aB (UK (Ux eo))];exact hb0
 done:=by
  intro X hP hw hK hc i pins s σ H E I hf Z hg;subst hP hw hK;obtain⟨xs,ys,s1,s2,he⟩:=hg;obtain⟨us,ru,pu,_⟩:=I.tuple s1;obtain⟨ws,rw',pw,_⟩:=I.tuple s2;refine rq (I.ok.hd hc) D Z pu pw ?_ λh1 kp=>⟨rfl,Kd (turned:=[z,TO,i1,i2]) (t':=s.toks) I (λb o nb e=>?_) λb hb=>hf b ?_⟩
  . have l1:=ru.length;have l2:=rw'.length;rcases he with he | he
    . exact .inl (by simp;omega)
    . exact .inr (by simp;omega)
  . simp only[Uy,U2,or_false,not_or] at nb;exact kp b o nb.1 nb.2.1 nb.2.2.1 nb.2.2.2 e
  . simp only[Uy,U2,or_false] at hb ⊢;rcases hb with rfl | rfl | rfl | rfl<;>simp
 self:=λA i s Q E Z h=>wpAny_pyIter_zip Z.zQ h
abbrev tI(a:Addr):Obj:={ cls:= .type "tuple_iterator",data:= .fields #[.ref a,.int 0 0] }
abbrev Rr(h:Heap)(a b:Addr):Heap :=
 Wa (Wa (Wa (Wa (Wa h (tI a)) (tI b)) { cls:= .type "tuple",data:= .seq #[.ref h.objs.size,.ref (h.objs.size+1)] }) { cls:= .type "tuple",data:= .seq #[.none,.none] })
  { cls:= .type "zip",data:= .fields #[.none,.bool false,.bool false,.ref (h.objs.size+2),.ref (h.objs.size+3)] }
theorem sE(a b:Addr)(us ws:Array Value):Meets (Xa.«zip.__new__» ⟨[.type "zip",.ref a,.ref b],[]⟩) (λ_ R u=>u.heap.IsTuple a us/\u.heap.IsTuple b ws/\R (.ok (.ret (.ref (u.heap.objs.size+4)))) { u with heap:=Rr u.heap a b }) :=
 .of_wp λprog w A R u hu=>by
  obtain⟨hp,gg,dd,tk,os⟩:=u;obtain⟨ha,hb,hr⟩:=hu;have sub:=sub_zip;have fa:Heap.IsTuple (ab0 ⟨hp,gg,dd,tk,os⟩) a us:=ha;have fb:Heap.IsTuple (ab0 ⟨hp.push (tI a),gg,dd,tk,os⟩) b ws:=let ⟨o,e,c⟩:=hb;⟨o,Uk _ e,c⟩
  wp_walk using XC fa,XC fb
  refine⟨_,rfl,?_⟩;simp only[Vy];exact hr
section
variable{X:Cx}{pg:Tb}{k:Nat}{a b:Expr}{ma mb:ME}{p pos:Pos}{els:List Expr}{j:Nat}{tpos:Pos}
theorem Nt(h:Heap)(l1 l2:Addr):wj (Rr h l1 l2) (h.objs.size+4) (h.objs.size+2) (h.objs.size+3) h.objs.size (h.objs.size+1) l1 l2 0/\(Rr h l1 l2).objs.size=h.objs.size+5:=by
 have n1:(Wa h (tI l1)).objs.size=h.objs.size+1:=Vy ..;have n2:(Wa (Wa h (tI l1)) (tI l2)).objs.size=h.objs.size+2:=by rw[Vy,n1]
 have n3:(Wa (Wa (Wa h (tI l1)) (tI l2)) { cls:= .type "tuple",data:= .seq #[.ref h.objs.size,.ref (h.objs.size+1)] }).objs.size=h.objs.size+3:=by rw[Vy,n2]
 have n4:(Wa (Wa (Wa (Wa h (tI l1)) (tI l2)) { cls:= .type "tuple",data:= .seq #[.ref h.objs.size,.ref (h.objs.size+1)] }) { cls:= .type "tuple",data:= .seq #[.none,.none] }).objs.size=h.objs.size+4:=by rw[Vy,n3]
 refine⟨⟨?_,?_,⟨.none,.none,?_⟩,⟨tI l1,?_,rfl,rfl⟩,⟨tI l2,?_,rfl,rfl⟩⟩,by rw[Vy,n4]⟩
 . rw[<- n4];exact UB _ rfl
 . refine Uk _ (Uk _ ?_);rw[<- n2];exact UB _ rfl
 . refine Uk _ ?_;rw[<- n3];exact UB _ rfl
 . exact Uk _ (Uk _ (Uk _ (Uk _ (UB _ rfl))))
 . refine Uk _ (Uk _ (Uk _ ?_));rw[<- n1];exact UB _ rfl
noncomputable def OR(K:Ud)(ta:TA):TI:=fun σ H R=>ta σ H λvs H1=> ∃ a1 a2 xs ys,vs=[.ref a1,.ref a2]/\fM K H1 a1 xs/\fM K H1 a2 ys/\R (Tg K a1 a2) H1
theorem JJ{ta:TA}(hg:Gl X "zip")(hm:X.mg "zip" =none)(ha:PA X [a,b] ta)(hs:U7 [a,b] X.env=[(false,eval a X.env),(false,eval b X.env)])(hs2:U7 [b] X.env=[(false,eval b X.env)]) :
  PI X (.Tuple els j tpos) (.Call (.Name "zip" p) [a,b] [] pos) (OR X.K ta):=by
 intro pins s σ H R I h;refine Call_ (kM I hg hm boot_zip (VO (cL (ha pos pins s σ H _ I h) λus s1 ⟨vs,H1,I1,r1,a1,a2,xs,ys,e,q1,q2,q⟩=>?_) (by rw[hs,hs2]) (by rw[hs2];rfl)));subst e;cases r1 with
 | cons ra rr =>
  cases rr with
  | cons rb rr =>
   cases rr
   cases ra
   cases rb
   obtain⟨u1,_,p1,_⟩:=I1.tuple q1
   obtain⟨u2,_,p2,_⟩:=I1.tuple q2
   refine callType_new F.called_zip (by decide) (F.typeCall_zip_2 _ _) (F.newCall_zip_2 _ _) (λobj=>F.args_object_init_3 obj _ _) F.entry_zip_new (sE a1 a2 u1.toArray u2.toArray) ⟨p1,p2,?_⟩
   obtain⟨Z,zs⟩:=Nt s1.heap a1 a2
   have lt1:a1 < s1.heap.objs.size:=let ⟨_,e,_⟩:=p1;Ux e
   have lt2:a2 < s1.heap.objs.size:=let ⟨_,e,_⟩:=p2;Ux e
   refine⟨⟨_,Z.zQ,rfl⟩,wpAny_pyIter_zip Z.zQ ?_⟩
   have kp: ∀ c o,s1.heap.get? c=some o->(Rr s1.heap a1 a2).get? c=some o:=λc o e=>Uk _ (Uk _ (Uk _ (Uk _ (Uk _ e))))
   refine⟨s1.heap.objs.size+4,[s1.heap.objs.size+4,s1.heap.objs.size+2,s1.heap.objs.size+3,s1.heap.objs.size,s1.heap.objs.size+1],_,_,H1,rfl,I1.kept (t':=s1.toks) kp,Dq (zipApart_new lt1 lt2),Z,λc hc=>?_,q⟩
   have hle:s1.heap.objs.size<=c:=by
    simp only[Uy,U2,or_false] at hc;rcases hc with rfl | rfl | rfl | rfl | rfl<;>omega
   exact I1.Nn hle (I1.bD.fresh hle)
noncomputable def Kc(a b:ME):MI:=λc e h=>(a c e h).bind λx h1=>(b c e h1).bind λy h2=>match x.seq?,y.seq? with
 | some xs,some ys=> .ok ⟨none,(xs.zip ys).map λp=> .tup [p.1,p.2]⟩ h2
 | _,_=> .no
theorem Ki(hg:Gl X "zip")(ha:JE X pg k a ma)(hb:JE X pg k b mb)(hs1:noStar a=true:=by rfl)(hs2:noStar b=true:=by rfl):JI X pg k (.Tuple els j tpos) (.Call (.Name "zip" p) [a,b] [] pos) (Kc ma mb):=⟨λA =>
 let ⟨_,q1,s1⟩:=ha.h A;let ⟨_,q2,s2⟩:=hb.h A
 ⟨_,⟨JJ hg (A.blt _ (by decide +kernel)) (qk q1 (qk q2 Eb hs2) hs1).h (by rw[cy hs1,cy hs2];rfl) (by rw[cy hs2];rfl)⟩,fun ρ h H e σ R it h' s r q P=>by
 obtain⟨x,h1,e1,q⟩:=bind_eq.mp q
 obtain⟨y,h2,e2,q⟩:=bind_eq.mp q
 refine s1 ρ h H e σ _ x h1 s r e1 λx' ρ1 H1 g1 z1 r1=>?_
 refine s2 ρ1 h1 H1 e σ _ y h2 z1 (r.gr g1) e2 λy' ρ2 H2 g2 z2 r2=>?_
 split at q
 . rename_i xs ys ex ey;cases q;obtain⟨a1,us,rfl,t1,d1⟩:=rel.seq ex (rel.gr g2 _ _ r1);obtain⟨a2,ws,rfl,t2,d2⟩:=rel.seq ey r2;refine⟨a1,a2,us,ws,rfl,t1,t2,P ρ2 H2 _ (g1.trans g2) z2 λi ρ3 h3 H3 g s3 _=>⟨λv ev=>?_,λei=>?_⟩⟩
   . rw[UA] at ev;cases ez:(xs.zip ys)[i]? with
     | none=>rw[ez] at ev;exact nomatch ev
     | some pr =>
      rw[ez] at ev
      cases ev
      obtain⟨zx,zy⟩:=List.getElem?_zip_eq_some.mp ez
      obtain⟨u,f1,f2⟩:=(av.gr g _ _ d1).get zx
      obtain⟨w,f3,f4⟩:=(av.gr g _ _ d2).get zy
      refine⟨⟨us,ws,u,w,g.J3 t1,g.J3 t2,f1,f3⟩,?_⟩
      rintro v' H' ⟨p,u',w',hp,rfl,rfl,k1,k2⟩
      have:=k1 us (g.J3 t1)
      rw[f1] at this;cases this
      have:=k2 ws (g.J3 t2)
      rw[f3] at this;cases this
      have gn:Gr ρ3 H3 ρ3 (upd H3 p (.tup [u,w])):=Gr.Ak hp
      refine⟨ρ3,gn,s3.tup hp,?_⟩
      rw[rel]
      exact⟨p,_,rfl,bz,aD.mpr ⟨_,_,rfl,rel.gr gn _ _ f2,av.one (rel.gr gn _ _ f4)⟩⟩
   . refine⟨us,ws,g.J3 t1,g.J3 t2,?_⟩;have:i=min xs.length ys.length:=by simpa using ei
     rw[<- d1.len,<- d2.len];omega
 . exact nomatch q⟩⟩
end
structure bj(P:UN)(w:World)(K:Ud)(mg:Str->Option Value)(pg:Tb)(f:String)(d:Df)(st:Stmt)(N:List Str):Prop where
 at_:At K mg (UC f) st
 sc:d9 N d.ps (ax st)
 len:N.length=d.ps.length+d.nl
 bd: ∀(kV doc pm:Value)(an:Option Addr)(cdv ct:Value)(us:List Value),us.length=d.ps.length->WV (Vu (UC f) (UC f) (cJ st) (bq st) (ax st) .none kV doc pm an cdv ct) ⟨us,[]⟩=pure (d.ps.zip us)
 body: ∀(base:Heap)(fa:Addr)(cdv:Value)(A:U6)(outer:List Env)(s:Uj)(H:Hp)(E:XK)(k:Nat),yF (j5 ue P w K mg base N (UC f) (ax st) fa cdv A outer s H E).qy pg k (bq st) d.body
section
variable{P:UN}{w:World}{K:Ud}{mg:Str->Option Value}{pg:Tb}
theorem bj.of{f:String}{d:Df}(b:MS){st:Stmt}{N:List Str}(e:d.body=b)(a:At K mg (UC f) st)(S:d9 N d.ps (ax st))(hl:N.length=d.ps.length+d.nl)
  (hb: ∀(kV doc pm:Value)(an:Option Addr)(cdv ct:Value)(us:List Value),us.length=d.ps.length->WV (Vu (UC f) (UC f) (cJ st) (bq st) (ax st) .none kV doc pm an cdv ct) ⟨us,[]⟩=pure (d.ps.zip us))
  (h: ∀(base:Heap)(fa:Addr)(cdv:Value)(A:U6)(outer:List Env)(s:Uj)(H:Hp)(E:XK)(k:Nat),yF (j5 ue P w K mg base N (UC f) (ax st) fa cdv A outer s H E).qy pg k (bq st) b):bj P w K mg pg f d st N :=
 ⟨a,S,hl,hb,by rw[e];exact h⟩
theorem bj.good{base:Heap}{f:String}{d:Df}{st:Stmt}{N:List Str}(g:bj P w K mg pg f d st N):jP P w K mg base pg f d:=⟨st,N,g.at_,g.sc,g.len,g.bd,g.body base⟩
theorem Dj{LZ:List (String × Df)}(hf:pg.fns=λf=>(LZ.find? λp=>p.1 == f).map (·.2))(h: ∀ p∈LZ,∃ st N,bj P w K mg pg p.1 p.2 st N)(base:Heap): ∀ f d,pg.fns f=some d->jP P w K mg base pg f d:=λf d e=>by
 rw[hf] at e;dsimp only at e;cases q:LZ.find? λp=>p.1 == f with
 | none=>rw[q] at e;exact nomatch e
 | some p =>
  rw[q] at e
  cases e
  obtain⟨st,N,g⟩:=h p (Xm q)
  have:p.1=f:=by simpa using ZZ q
  rw [<- this]
  exact g.good
theorem KS {k : Nat} {d : Df} {st : Stmt} {N : List Str} {fa : Addr} {x : Str} (T : Top P w K mg pg) (G : ∀ base f d, pg.fns f = some d -> jP P w K mg base pg f d) (hf : pg.fns "law" = some d) (hx : d.ps = [x]) (g : bj P w K mg pg "law" d st N) (hfa : mg "law" = some (.ref fa)) :
    ∃ fd : V0, (∀ (s : Uj) (v : Value), ZD s fd ⟨[v], []⟩ [(x, v)]) /\ ∀ base : Heap, K.In base -> base.Ns UI mg -> lV P w K mg base ue (k + 1) fa fd [x] (xD K pg (k + 1) "law") := by
  obtain ⟨f, fd, F, hm⟩ := g.at_;have e := hfa.symm.trans hm;cases e;refine ⟨fd, λs v => .of_eq ?_, λbase _ _ => ?_⟩
  . have := Bx.args F g.bd [v] (by rw [hx]; rfl);rw [this, hx]; rfl
  . have key : ∀ {args : List PV} {h h' : PH} {v : PV}, run pg (k + 1) "law" args h = .ok v h' -> args.length = d.ps.length ∧
        ((∃ w h2, d.body (run pg k) (args.map some ++ List.replicate d.nl none) h = .ok (.rt w) h2 /\ settle h w h2 = .ok v h') ∨
         (∃ e h2, d.body (run pg k) (args.map some ++ Up d.nl none) h = .ok (.nx e) h2 /\ settle h .non h2 = .ok v h')) := λ{args h h' v} q => by
      rw [run, hf] at q;simp only at q;split at q
      . rename_i hn;refine ⟨hn, ?_⟩;split at q
        . rename_i w h2 e; exact .inl ⟨w, h2, e, q⟩
        . rename_i e' h2 e; exact .inr ⟨e', h2, e, q⟩
        . exact nomatch q
        . exact nomatch q
        . exact nomatch q
      . exact nomatch q
    have S := g.sc;rw [hx] at S;refine Bx.SW F S (λvs H Q E ⟨ρ, h, args, v, h', _, r, q, _⟩ => by rw [<- r.len, (key q).1, hx]) ?_;rintro fa cdv A outer s H vs Q E hr ⟨ρ, h, args, v, h', sm, r, q, post⟩;have amb : dm (j5 ue P w K mg base N (UC "law") (ax st) fa cdv A outer s H E).qy pg k := ⟨hr, rfl, λ_ _ z => z, CL T (G base) k, T.blt, T.con, T.yP⟩
    obtain ⟨t, qt, st'⟩ := (g.body base fa cdv A outer s H E k).h amb;refine ⟨t, qt, ?_⟩;obtain ⟨hn, q⟩ := key q;have he : L2.start N vs = vs.map some ++ Up d.nl none := by
      unfold L2.start;rw [g.len, <- r.len, hn, Zy]
    rw [he];rcases q with ⟨w, h2, e, q⟩ | ⟨e', h2, e, q⟩
    . exact st' ρ h H _ _ _ _ h2 sm (iL r _) e (gG sm q post)
    . exact st' ρ h H _ _ _ _ h2 sm (iL r _) e fun σ' ρ' H' g s' _ => gG sm q post .non ρ' H' g s' (by rw [rel])
end
theorem Ll {K:Ud} {pg:Tb} {k:Nat} {E:XK} (hl: ∀ ns:List Int,ns.length<=63->Ok (run pg k "law" [.ref 0] [.kR (ns.map PV.int)]) λv _=>v= .bl true) (H:Hp) (a:Addr) (ns:List Int) (hn:ns.length<=63) (o:Dg H) (q:iS K H a (ns.map V.int)) :
  xD K pg k "law" [.ref a] H (λv _=>v= .bl true) E:=by
 obtain⟨v,h',e,rfl⟩:=hl ns hn;refine⟨[a],_,[.ref 0],_,h',⟨rfl,λi j b oi oj ei ej mi mj _ _=>?_,λi ob b ei eb=>?_⟩,av.one (by rw[rel];exact⟨a,rfl,rfl⟩),e,λv' ρ' H' g s r=>by rw[rel] at r;exact r⟩
 . cases i with
   | zero=>simp at ei;subst ei;exact nomatch mi
   | succ i=>simp at ei
 . cases i with
   | zero =>
    simp at ei eb
    subst ei eb
    exact⟨_,M7 o q,av.ints ns⟩
   | succ i=>simp at ei
section
variable{P:UN}{w:World}{K:Ud}{mg:Str->Option Value}{pg:Tb}
theorem Hm{conT:List (Str × PV)}(hc:pg.con=λx=>(conT.find? λp=>decide (p.1=x)).map (·.2))(h: ∀ p∈conT,∃ u v',mg p.1=some u/\RelV v' u/\Ae K v'/\ ∀ ρ H,rel K ρ H p.2 v'): ∀ x v,pg.con x=some v-> ∃ u v',mg x=some u/\RelV v' u/\Ae K v'/\ ∀ ρ H,rel K ρ H v v':=λx v e=>by
 rw[hc] at e;dsimp only at e;cases q:conT.find? λp=>decide (p.1=x) with
 | none=>rw[q] at e;exact nomatch e
 | some p =>
  rw[q] at e
  cases e
  have:p.1=x:=by simpa using ZZ q
  rw[<- this]
  exact h p (Xm q)
theorem GH{dcT:List (Str × List (Key × PV))}(hc:pg.yP=λx=>(dcT.find? λp=>decide (p.1=x)).map (·.2))(h: ∀ p∈dcT,∃ a kws,mg p.1=some (.ref a)/\KD P w K a kws/\ ∀ ρ H,RK K ρ H p.2 kws) :
  ∀ x kvs,pg.yP x=some kvs-> ∃ a kws,mg x=some (.ref a)/\KD P w K a kws/\ ∀ ρ H,Vt (λ(p:Key × PV) (q:Key × V)=>p.1=q.1/\rel K ρ H p.2 q.2) kvs kws:=λx v e=>by
 rw[hc] at e;dsimp only at e;cases q:dcT.find? λp=>decide (p.1=x) with
 | none=>rw[q] at e;exact nomatch e
 | some p =>
  rw[q] at e
  cases e
  have:p.1=x:=by simpa using ZZ q
  rw[<- this]
  exact h p (Xm q)
inductive CV:PV->Value->Prop where
 | int (i:Int) (t:Tok):CV (.int i) (.int i t)
 | str (x:Str) (t:Tok):CV (.str x) (.str x t)
theorem CV.v{x:PV}{u:Value}(c:CV x u): ∃ v,RelV v u/\ ∀ ρ H,rel K ρ H x v:=by
 cases c with
 | int i t=>exact⟨.int i,⟨t,rfl⟩,λ_ _=>by rw[rel]⟩
 | str z t=>exact⟨.str z,⟨t,rfl⟩,λ_ _=>by rw[rel]⟩
theorem Te.v: ∀{xs:List PV}{us:List Value},Vt CV xs us-> ∃ vs,Vals vs us/\ ∀ ρ H,av K ρ H xs vs
 | _,_,.nil=>⟨[],.nil,λ_ _=>aI.mpr rfl⟩
 | _,_,.cons c t=>let ⟨v,a,b⟩:=CV.v c;let ⟨vs,d,e⟩:=Te.v t;⟨v::vs,.cons a d,fun ρ H=>aD.mpr ⟨v,vs,rfl,b ρ H,e ρ H⟩⟩
theorem uE{a:Addr}{d:Option Addr}{us:List Value}{n:Nat}{sl:Array (Option Value)}{xs:List PV}(hl:K.lookup a=some ⟨.type "tuple",d,.seq us.toArray n,sl⟩)(hz:us.length<=sizeLine)(h:Vt CV xs us)(ρ :List Addr)(H:Hp):rel K ρ H (.ktup xs) (.ref a):=by
 obtain⟨vs,r,q⟩:=Te.v (K:=K) h;rw[rel];exact⟨a,vs,rfl,⟨_,us.toArray,n,hl,rfl,rfl,by simpa using hz,by simpa using r⟩,q ρ H⟩
theorem tW{x:Str}{v:PV}{u:Value}(hm:mg x=some u)(c:CV v u): ∃ u v',mg x=some u/\RelV v' u/\Ae K v'/\ ∀ ρ H,rel K ρ H v v':=let ⟨v',a,b⟩:=CV.v (K:=K) c;⟨u,v',hm,a,(λp e=>by subst e;cases(show u=UJ p from a);cases c),b⟩
theorem tL{x:Str}{a:Addr}{us:List Value}{n:Nat}{sl:Array (Option Value)}{xs:List PV}(hm:mg x=some (.ref a))(hl:K.lookup a=some ⟨.type "tuple",none,.seq us.toArray n,sl⟩)(hz:us.length<=sizeLine)(h:Vt CV xs us) :
  ∃ u v',mg x=some u/\RelV v' u/\Ae K v'/\ ∀ ρ H,rel K ρ H (.ktup xs) v':=⟨_,.ref a,hm,rfl,λp e=>by cases e;exact⟨_,hl,rfl,rfl⟩,uE hl hz h⟩
noncomputable def DV(K:Ud)(x:PV)(u:Value):Prop:= ∃ v,RelV v u/\ ∀ ρ H,rel K ρ H x v
theorem jh{x:PV}{u:Value}(c:CV x u):DV K x u:=CV.v c
theorem ft{a:Addr}{d:Option Addr}{us:List Value}{n:Nat}{sl:Array (Option Value)}{xs:List PV}(hl:K.lookup a=some ⟨.type "tuple",d,.seq us.toArray n,sl⟩)(hz:us.length<=sizeLine)(h:Vt CV xs us):DV K (.ktup xs) (.ref a):=⟨.ref a,rfl,uE hl hz h⟩
theorem EH{ls:List (Str × Tok × Value)}{kvs:List (Key × PV)}(h:Vt (λ(p:Key × PV) (l:Str × Tok × Value)=>p.1= .inr l.1/\DV K p.2 l.2.2) kvs ls): ∃ kws,KV kws (ls.map λp=>((VZ p.1:Key),p.2.2))/\ ∀ ρ H,RK K ρ H kvs kws:=by
 induction h with
 | nil=>exact⟨[],.nil,λ_ _=> .nil⟩
 | @cons p l ps qs a t ih =>
  obtain⟨kws,r,q⟩:=ih
  obtain⟨e,v,r1,r2⟩:=a
  exact⟨(.inr l.1,v)::kws,.cons ⟨rfl,r1⟩ r,fun ρ H=> .cons ⟨e,r2 ρ H⟩ (q ρ H)⟩
theorem wG{x:Str}{a:Addr}{ls:List (Str × Tok × Value)}{kvs:List (Key × PV)}{ep:Nat}(hm:mg x=some (.ref a))(hl:K.lookup a=some { cls:= .type "dict",data:= .dict (ls.map (F7 w)).toArray ep })(ha:(a == Vx)=false)(hn:(ls.map λp=>(VZ p.1:Key)).Nodup)
  (h:Vt (λ(p:Key × PV) (l:Str × Tok × Value)=>p.1= .inr l.1/\DV K p.2 l.2.2) kvs ls): ∃ a kws,mg x=some (.ref a)/\KD P w K a kws/\ ∀ ρ H,RK K ρ H kvs kws:=by
 obtain⟨kws,r,q⟩:=EH h;exact⟨a,kws,hm,QM hl ha hn r,q⟩
end
abbrev Jt(aj:List Value)(n:Nat)(dd:Option Addr)(sl:Array (Option Value)):Obj:={ cls:= .type "tuple",dict:=dd,data:= .seq aj.toArray n,slots:=sl }
theorem ye{k:Int}(h1: -(2 ^ 63)<=k)(h2:k < 2 ^ 63): ¬ (decide (k < -(2 ^ 63))||decide (k ≥ 2 ^ 63))=true:=by
 simp only[WZ,decide_eq_true_eq];omega
theorem xQ(l:Addr)(aj:List Value)(n:Nat)(k:Int)(u:Tok)(dd:Option Addr)(sl:Array (Option Value))(h1: -(2 ^ 63)<=k)(h2:k < 2 ^ 63)(hs:(aj.toArray.isEmpty||k == 1)=true) :
  Meets (Xa.«tuple.__mul__» ⟨[.ref l,.int k u],[]⟩) (λ_ R s=>s.heap.get? l=some (Jt aj n dd sl)/\R (.ok (.ret (.ref l))) s) :=
 .of_wp λprog w A R s h=>by
  obtain⟨hp,g,d,tk,os⟩:=s;obtain⟨hl,h⟩:=h;have f1:=ZA
  wp_walk using Vf hl,WI hl
  refine VM (λz=>absurd z (ye h1 h2)) (λ_=>?_)
  wp_walk using Vf hl,WI hl
  refine VM (λ_=>?_) (λz=>absurd hs z)
  wp_walk using Vf hl,WI hl
  exact⟨_,rfl,h⟩
theorem wN(l:Addr)(aj:List Value)(n:Nat)(k:Int)(u:Tok)(dd:Option Addr)(sl:Array (Option Value))(h1: -(2 ^ 63)<=k)(h2:k<=0)(hs: ¬ (aj.toArray.isEmpty||k == 1)=true) :
  Meets (Xa.«tuple.__mul__» ⟨[.ref l,.int k u],[]⟩) (λ_ R s=>s.heap.get? l=some (Jt aj n dd sl)/\R (.ok (.ret (.ref s.heap.objs.size))) { s with heap:=s.heap.push { cls:= .type "tuple",data:= .seq #[] } }) :=
 .of_wp λprog w A R s h=>by
  obtain⟨hp,g,d,tk,os⟩:=s;obtain⟨hl,h⟩:=h;have f1:=ZA;have hz:(decide (k<=0)||aj.toArray.isEmpty)=true:=by simp[h2]
  wp_walk using Vf hl,WI hl
  refine VM (λz=>absurd z (ye h1 (by omega))) (λ_=>?_)
  wp_walk using Vf hl,WI hl
  refine VM (λz=>absurd z hs) (λ_=>?_);refine VM (λ_=>?_) (λz=>absurd hz z);exact Ue (m:=VI _) (VG (Us ⟨_,rfl,h⟩) (by size_fits))
theorem wY(l:Addr)(aj:List Value)(n:Nat)(k:Int)(u:Tok)(dd:Option Addr)(sl:Array (Option Value))(h1:0 < k)(h2:(aj.length:Int)*k<=100000)(hk:k<=100000)(hs: ¬ (aj.toArray.isEmpty||k == 1)=true) :
  Meets (Xa.«tuple.__mul__» ⟨[.ref l,.int k u],[]⟩) (λ_ R s=>s.heap.get? l=some (Jt aj n dd sl)/\R (.ok (.ret (.ref s.heap.objs.size))) { s with heap:=s.heap.push { cls:= .type "tuple",data:= .seq (Up k.toNat aj).flatten.toArray } }) :=
 .of_wp λprog w A R s h=>by
  obtain⟨hp,g,d,tk,os⟩:=s;obtain⟨hl,h⟩:=h;have f1:=ZA;have hz: ¬ (decide (k<=0)||aj.toArray.isEmpty)=true:=by
   intro z;rw[WZ,decide_eq_true_eq] at z;rcases z with z | z
   . omega
   . exact hs (by rw[z];rfl)
  have hc1: ¬ ((aj.toArray.size:Int)*k > (2 ^ 63 - 1) / 8):=by rw[Uw];omega
  have hc2: ¬ (YO ((aj.toArray.size:Int)*k)=true):=by
   unfold YO;rw[Uw,decide_eq_true_eq,show((sizeLine:Nat):Int)=16777216 from by decide];omega
  have e0:aaR (λx1 x2=>x1++x2) #[] (Up k.toNat aj.toArray)=(Up k.toNat aj).flatten.toArray:=by
   have:=foldl_rep aj k.toNat [];rw[UR] at this;exact this
  wp_walk using Vf hl,WI hl
  refine VM (λz=>absurd z (ye (by omega) (by omega))) (λ_=>?_)
  wp_walk using Vf hl,WI hl
  refine VM (λz=>absurd z hs) (λ_=>?_);refine VM (λz=>absurd z hz) (λ_=>?_);refine VM (λhab=>absurd hab hc1) (λ_=>?_);refine VM (λhab=>absurd hab hc2) (λ_=>?_);refine Ue (m:=VI _) (VG (Us ⟨_,rfl,?_⟩) ?_)
  . rw[e0];exact h
  . rw[e0];show(Up k.toNat aj).flatten.toArray.size<=sizeLine;rw[Uw,len_rep,aa2];refine UO (show aj.length*k.toNat<=100000 from ?_) (by decide);have e1:((aj.length*k.toNat:Nat):Int)=(aj.length:Int)*k:=by rw[abE,aaB (by omega)]
    omega
noncomputable def LQ(K:Ud):R2:=λx y H Q=> ∃ a k xs,x= .ref a/\y= .int k/\fM K H a xs/\(xs.length:Int)*k<=100000/\ -100000<=k/\k<=100000/\(xs=[]\/k=1->Q (.ref a) H)/\(¬ (xs=[]\/k=1)-> ∀ p,H p=none->Q (.ref p) (upd H p (.tup (Up k.toNat xs).flatten)))
theorem Dx{X:Cx}:dw X (VD .Mult) (LQ X.K):=by
 intro pins s σ H x y v u Q I rx ry h;obtain⟨a,k,xs,rfl,rfl,ha,hl,k1,k2,q1,q2⟩:=h;cases(show v=UJ a from rx);obtain⟨t,rfl⟩:=ry;obtain⟨aj,r1,p1,_⟩:=I.tuple ha;obtain⟨⟨cls,dd,data,sl⟩,ho,hc,n,hd⟩:=id p1;simp only at hc hd;subst hc hd;have hlen:=r1.length;refine YT (T:= "tuple") (U:= "int") (by decide) ⟨_,ho,rfl⟩ (λs'=>ZI s' k t) mZ PySem.F.fills_int_mul Z6 sA PySem.F.slot_int_index.lookup
  (Wb Z6 (ZI s k t) PySem.F.entry_int_rmul (PySem.F.args_int_rmul_2 _ _) (oR k t a aj.toArray n dd sl) ⟨ho,rfl,⟨_,ho,rfl⟩,?_⟩)
 have hx:xs=[]↔aj=[]:=(r1.ox).symm;by_cases hs:xs=[]\/k=1
 . have hb:(aj.toArray.isEmpty||k == 1)=true:=by
    rcases hs with z | z
    . rw[hx.mp z];rfl
    . rw[z];simp
   exact Wb Wf ⟨_,ho,rfl⟩ XG (Xw _ _) (xQ a aj n k t dd sl (by omega) (by omega) hb) ⟨ho,⟨.ref a,H,I,rfl,q1 hs⟩⟩
 . have hb: ¬ (aj.toArray.isEmpty||k == 1)=true:=λz=>hs (by
    rw[WZ] at z;rcases z with z | z
    . exact .inl (hx.mpr (by simpa using z))
    . exact .inr (by simpa using z))
   by_cases hk:0 < k
   . refine Wb Wf ⟨_,ho,rfl⟩ XG (Xw _ _) (wY a aj n k t dd sl hk (by rw[<- hlen];exact hl) k2 hb) ⟨ho,?_⟩;refine⟨.ref s.heap.objs.size,_,I.laid (t':=s.toks) (o:= .tup (Up k.toNat xs).flatten) (λb ob q=>Uk _ q) (Uo _) ?_,rfl,q2 hs _ (I.bD.fresh (Uo _))⟩;refine⟨?_,_,r1.rep k.toNat,qQ.new _ _⟩;rw[len_rep,aa2];refine UO (show xs.length*k.toNat<=100000 from ?_) (by decide);have e1:((xs.length*k.toNat:Nat):Int)=(xs.length:Int)*k:=by rw[abE,aaB (by omega)]
     omega
   . refine Wb Wf ⟨_,ho,rfl⟩ XG (Xw _ _) (wN a aj n k t dd sl (by omega) (by omega) hb) ⟨ho,?_⟩;refine⟨.ref s.heap.objs.size,_,I.laid (t':=s.toks) (o:= .tup (Up k.toNat xs).flatten) (λb ob q=>Uk _ q) (Uo _) ?_,rfl,q2 hs _ (I.bD.fresh (Uo _))⟩;have:k.toNat=0:=by omega
     rw[this];exact⟨Vd _,[],.nil,qQ.new _ _⟩
section
variable{X:Cx}{pg:Tb}{k:Nat}
theorem av.rep{K:Ud}{ρ :List Addr}{H:Hp}{xs:List PV}{vs:List V}(r:av K ρ H xs vs): ∀(n:Nat),av K ρ H (Up n xs).flatten (Up n vs).flatten
 | 0=>aI.mpr rfl
 | n+1=>by rw[VY,VY,WD,WD];exact r.app (r.rep n)
noncomputable def dA:PV->PV->PH->RV PV:=λx y h=>match x,y with
 | .int i,.int j=>if (-(2 ^ 64) < i/\i < 2 ^ 64)\/(-(2 ^ 64) < j/\j < 2 ^ 64) then .ok (.int (i*j)) h else .no
 | .tup xs,.int k=>if (xs.length:Int)*k<=100000/\ -100000<=k/\k<=100000 then .ok (.tup (Up k.toNat xs).flatten) h else .no
 | .ref n,.int k=>(match h[n]? with
  | some (.lst xs)=>if (-(2 ^ 63)<=k/\k < 2 ^ 63)/\xs.length*k.toNat<=sizeLine then .ok (.ref h.length) (h++[.lst (Up k.toNat xs).flatten]) else .no
  | _=> .no)
 | _,_=> .no
theorem MC:dm X pg k-> ∃ r,dw X (VD .Mult) r/\nH X.K r dA:=λ_=>⟨_,JU.or (Dx.or Nu),fun ρ h H x y x' y' Q v h' s rx ry q P=>by
 unfold dA at q;split at q
 . split at q
   . rename_i hc;cases q;rw[rel] at rx;rw[rel] at ry;exact .inl ⟨_,_,rx,ry,hc,P _ ρ H (.refl _ _) s (by rw[rel])⟩
   . exact nomatch q
 . rename_i xs k;split at q
   . rename_i hc;cases q;have rx':=rx;rw[rel] at rx;rw[rel] at ry;obtain⟨a,us,rfl,e2,e3⟩:=rx;refine .inr (.inl ⟨a,k,us,rfl,ry,.of e2,by rw[<- e3.len];exact hc.1,hc.2.1,hc.2.2,λz=>?_,λz p hp=>om s (e3.rep _) P p hp⟩);have:(Up k.toNat xs).flatten=xs:=by
      rcases z with z | z
      . subst z;have:xs=[]:=Yf e3.len;subst this;simp
      . rw[z];simp[Up]
     rw[this] at P;exact P _ ρ H (.refl _ _) s rx'
   . exact nomatch q
 . split at q
   . rename_i xs en;split at q
     . rename_i hc;cases q;rw[rel] at ry;obtain⟨a,us,rfl,_,e1,e2⟩:=s.lst en rx;exact .inr (.inr ⟨a,_,us,rfl,ry,e1,hc.1.1,hc.1.2,by rw[<- e2.len];exact hc.2,λp hp=>d7 s (e2.rep _) P p hp⟩)
     . exact nomatch q
   . exact nomatch q
 . exact nomatch q⟩
end
section
variable{prog:UN}{w:World}{A:U6}{E:Value->Uj->Prop}{s:Uj}
theorem vD{t:Addr}{us:List Value}{R:List Value->Uj->Prop}(ht:s.heap.IsTuple t us.toArray)(fits:us.length<=sizeLine)
  (q:R us { s with heap:=(s.heap.push (WU "list" #[] 0)).update s.heap.objs.size (Wo (· ++us.toArray)) }):wpAny (model prog w) A (collect (.ref t)) R E s:=by
 obtain⟨ob,e1,e2,m,e3⟩:=id ht;have e1':=Uk (WU "list" #[] 0) e1;have own:(s.heap.push (WU "list" #[] 0)).get? s.heap.objs.size=some (WU "list" #[] 0):=UB _ rfl;have sum:(#[]:Array Value)++us.toArray=us.toArray:=by simp
 unfold collect;refine Ue (wpAny_runValue (Yl entry_proto_collect' (show wpAny _ _ (newList [] >>= λl=>again (.builtin "list.__iadd__" ⟨[l,.ref t],[]⟩)) _ _ s from ?_)));refine Ue (X9 (Us ⟨Code.quiet_builtin _ (by decide +kernel),Yl entry_list_iadd' (show wpAny _ _ (X7 _ (.ref t) _) _ _ { s with heap:=s.heap.push (WU "list" #[] 0) } from ?_)⟩));unfold X7;refine Ue (Xh (T:= "tuple") ⟨ob,e1',e2⟩ (RO (by simp) (Ue (aba e1' e3 (Ue (aba own rfl ?_))))));refine SH (by simp) (Ue (Zh own rfl (Us ?_) (Vd _) (by rw[sum,Uw];omega)));refine Ue (WI (get?_update_seq own _) ?_);show wpAny _ _ (pure ((#[]:Array Value)++us.toArray).toList) R E _;rw[sum];exact Us q
theorem nU{t:Addr}{us:List Value}{ss:List Str}{R:Value->Uj->Prop}(ht:s.heap.IsTuple t us.toArray)(hS:Yt us ss)(n64:us.length < 64)
  (q: ∀(out:Array Value)(ss':List Str),Yt out.toList ss'->ss'.Perm ss->Y4 ss'=true->R (.ref (s.heap.objs.size+1)) { s with heap:=abo s.heap us out }):wpAny (model prog w) A (call (.builtin "sorted") [.ref t]) R E s:=by
 refine Xk aby aa4 aa5 (aa6 (.ref t)) ?_;unfold Xa.«sorted»;refine Ue (m:=checkCount "sorted" 1 1 [UJ t].length) (Us (Ue (vD ht (L2.mn n64) (Ue (X9 ?_ (L2.mn n64))))));show wpAny _ _ _ _ _ { s with heap:=lC s.heap us };rw[fL];exact Ue (VP (lI (jb s.heap us) hS n64 λout ss' a1 a2 a3=>Us ⟨_,rfl,q out ss' a1 a2 a3⟩))
end
section
variable{X:Cx}{pg:Tb}{k:Nat}
noncomputable def Gg(K:Ud):List V->Hp->VK->Prop:=λxs H Q=> ∃ p ss,xs=[.ref p]/\fM K H p (ss.map V.str)/\ss.length < 64/\ ∀ l ss',H l=none->ss'.Perm ss->Y4 ss'=true->Q (.ref l) (upd H l (.lst (ss'.map V.str)))
theorem uN:aV X (.builtin "sorted") (Gg X.K):=by
 intro pins s σ H xs us Q I r ⟨p,ss,e,hS,h64,q⟩;subst e;obtain⟨u,rfl,ru⟩:=vals1 r;cases(show u=UJ p from ru);obtain⟨aj,hv,hl,hz⟩:=I.tuple hS;have sa:=fQ hv;refine nU hl sa (by rw[sa.length];exact h64) λout ss' a1 a2 a3=>?_;obtain⟨e,he⟩:=aa7 s.heap aj out;have hlen:(ss'.map V.str).length<=sizeLine:=by rw[Ui,a2.length_eq];exact WC (Ut h64 (by decide))
 obtain⟨hn,I'⟩:=I.mJ (a:=s.heap.objs.size+1) (o:= .lst (ss'.map V.str)) (t':=s.toks) (λb o e=>aaG e) (V6 (Y0 _)) ⟨hlen,out.toList,e,jI a1,by simpa [WU] using he⟩;exact⟨.ref _,_,I',rfl,q _ ss' hn a2 a3⟩
noncomputable def bI:List PV->PH->RV PV:=λxs h=>match xs with
 | [.tup ys]=>(match fe ys with
  | some ss=>if ss.length < 64 then .ok (.ref h.length) (h++[.lst ((cv ss).map PV.str)]) else .no
  | none=> .no)
 | _=>fF xs h
theorem AH:dm X pg k-> ∃ r,aV X (.builtin "sorted") r/\Bw X.K r bI:=λA=>⟨_,uN.or (uW A.calm),fun ρ h H xs us Q v h' s r q P=>by
 unfold bI at q;split at q
 . rename_i ys;split at q
   . rename_i ss es;split at q
     . rename_i hl;cases q;obtain⟨u,rfl,r1⟩:=aR r;rw[rel] at r1;obtain⟨a,vs,rfl,e1,e2⟩:=r1;rw[fc es,bX] at e2;subst e2;refine .inl ⟨a,ss,rfl,.of e1,hl,λl ss' hp pm so=>?_⟩;rw[pS pm so];exact d7 s (bX.mpr rfl) P l hp
     . exact nomatch q
   . exact nomatch q
 . exact .inr (vt A ρ h H _ us Q v h' s r q P)⟩
end
noncomputable def fin(h:PH)(r:RV Fl):RV PV:=match r with
 | .ok (.rt v) h'=>settle h v h'
 | .ok (.nx _) h'=>settle h .non h'
 | .ok _ _=> .no
 | .ex c us h'=> .ex c us h'
 | .no=> .no
theorem run_eq{pg:Tb}{k:Nat}{f:String}{d:Df}{vs:List PV}{h:PH}(hf:pg.fns f=some d)(hn:vs.length=d.ps.length):run pg (k+1) f vs h=fin h (d.body (run pg k) (vs.map some++Up d.nl none) h):=by
 rw[run,hf];simp only[if_pos hn];rfl
theorem cB{α β :Type}{a: α}{h:PH}{f: α ->PH->RV β}:(RV.ok a h).bind f=f a h:=(rfl)
theorem jx{h h':PH}{v:PV}:fin h (.ok (.rt v) h')=settle h v h':=(rfl)
theorem Gy{h:PH}{c:Prop}[Decidable c]{a b:RV Fl}:fin h (if c then a else b)=if c then fin h a else fin h b:=by split<;>rfl
theorem nF{h:PH}{v:PV}:settle h v h= .ok v h:=by unfold settle;split<;>simp
theorem cj{h g:PH}{v:PV}(hv:v.flat=true):settle h v (h++g)= .ok v h:=by unfold settle;rw[hv,kK];simp
theorem cg{h h':PH}{v:PV}(hv:v.flat=false):settle h v h'= .ok v h':=by unfold settle;rw[hv];rfl
theorem kA{h g:PH}{v:PV}{i:Nat}{o o':PO}(hv:v.flat=true)(e:h[i]?=some o)(m:o.gJ=o'.gJ)(hu:o'.iU h.length=true):settle h v (h.set i o'++g)= .ok v (h.set i o'):=by
 unfold settle;have:cx h.length h (h.set i o'++g)=true:=by
  have h1:=oS hu h (h++g) i o (kK _ h g) e m
  rwa[aam _ _ (Uh.mp e).1] at h1
 rw[hv,this];simp[List.take_append_of_le_length]
theorem nK{h:PH}{v:PV}{i:Nat}{o o':PO}:settle h v (h.set i o')= .ok v (h.set i o'):=by
 unfold settle;split
 . rw[<- UW (as:=h) (i:=i) (a:=o'),Zz]
 . rfl
theorem aO{a b:String}:UC a=UC b↔a=b:=by
 refine⟨λe=>?_,λe=>by rw[e]⟩;rw[ZQ,ZQ] at e;have e1:a.toList.map aaW=b.toList.map aaW:=by
  have:=congrArg (λs:Str=>s.cps.toList) e;simpa using this
 have inj: ∀{l m:List Char},l.map aaW=m.map aaW->l=m:=by
  intro l
  induction l with
  | nil=>intro m h;cases m with | nil=>rfl | cons=>exact nomatch h
  | cons x r ih =>
   intro m h
   cases m with
   | nil=>exact nomatch h
   | cons y t =>
    simp only[abD,Ul] at h
    have:x=y:=Char.toNat_inj.mp h.1
    rw[this,ih h.2]
 exact String.toList_inj.mp (inj e1)
section
variable{c:CF}{e e1:ao}{h h1:PH}{a b d:ME}{t u:MT}{r:MA}{x y v:PV}{f g:PV->PV->PH->RV PV}{s s':MS}{i n:Nat}
noncomputable def OP(f:PV->PV->PH->RV PV)(b:ME)(c:CF)(e:ao)(x:PV)(h1:PH):RV PV:=(b c e h1).bind λy h2=>f x y h2
theorem IG:ai f a b c e h=(a c e h).bind (OP f b c e):=rfl
theorem B3:OP f b c e x h1=(b c e h1).bind (f x):=rfl
theorem Qm{f:PV->PH->RV PV}:Bp f a c e h=(a c e h).bind f:=rfl
noncomputable def Nz(o:Option (Option PV))(h:PH):RV PV:=match o with
 | some (some v)=> .ok v h
 | _=> .no
theorem wI:aa i c e h=Nz (e[i]?) h:=rfl
theorem ug:Nz (some (some v)) h= .ok v h:=rfl
theorem Od:eC v c e h= .ok v h:=rfl
theorem LJ{p:Bool}:uB (.bl p) h= .ok p h:=rfl
noncomputable def Ce(b:ME)(c:CF)(e:ao)(x:Bool)(h1:PH):RV PV:=if x=true then b c e h1 else .ok (.bl false) h1
theorem Ko:B6 a b c e h=((a c e h).bind uB).bind (Ce b c e):=rfl
theorem Hi:Ce b c e true h=b c e h:=rfl
theorem Hd:Ce b c e false h= .ok (.bl false) h:=rfl
theorem FV{p:Prop}[Decidable p]:Ce b c e (decide p) h=if p then b c e h else .ok (.bl false) h:=by unfold Ce;by_cases q:p<;>simp[q]
noncomputable def PQ(b:ME)(c:CF)(e:ao)(x:Bool)(h1:PH):RV PV:=if x=true then .ok (.bl true) h1 else b c e h1
theorem OD:PL a b c e h=((a c e h).bind uB).bind (PQ b c e):=rfl
theorem MN:PQ b c e true h= .ok (.bl true) h:=rfl
theorem LR:PQ b c e false h=b c e h:=rfl
theorem Ml{p:Prop}[Decidable p]:PQ b c e (decide p) h=if p then .ok (.bl true) h else b c e h:=by unfold PQ;by_cases q:p<;>simp[q]
noncomputable def Rc(x:Bool)(h1:PH):RV PV:= .ok (.bl (!x)) h1
theorem NL:Gz a c e h=((a c e h).bind uB).bind Rc:=rfl
theorem E2{p:Bool}:Rc p h= .ok (.bl (!p)) h:=rfl
noncomputable def Kn(a b:ME)(c:CF)(e:ao)(x:Bool)(h1:PH):RV PV:=if x=true then a c e h1 else b c e h1
theorem Qs:uz t a b c e h=(t c e h).bind (Kn a b c e):=rfl
theorem LI:Kn a b c e true h=a c e h:=rfl
theorem LH:Kn a b c e false h=b c e h:=rfl
theorem LG{p:Prop}[Decidable p]:Kn a b c e (decide p) h=if p then a c e h else b c e h:=by unfold Kn;by_cases q:p<;>simp[q]
theorem NS{p:Prop}[Decidable p]:Kn a b c e (!decide p) h=if p then b c e h else a c e h:=by unfold Kn;by_cases q:p<;>simp[q]
theorem LF:aM a c e h=(a c e h).bind uB:=rfl
noncomputable def oX(u:MT)(c:CF)(e:ao)(x:Bool)(h1:PH):RV Bool:=if x=true then u c e h1 else .ok false h1
theorem HC:s9 t u c e h=(t c e h).bind (oX u c e):=rfl
theorem Ca:oX u c e true h=u c e h:=rfl
theorem D4:oX u c e false h= .ok false h:=rfl
theorem B9{p:Prop}[Decidable p]:oX u c e (decide p) h=if p then u c e h else .ok false h:=by unfold oX;by_cases q:p<;>simp[q]
theorem Eg{p:Prop}[Decidable p]:oX u c e (!decide p) h=if p then .ok false h else u c e h:=by unfold oX;by_cases q:p<;>simp[q]
noncomputable def xl(u:MT)(c:CF)(e:ao)(x:Bool)(h1:PH):RV Bool:=if x=true then .ok true h1 else u c e h1
theorem Lj:Iv t u c e h=(t c e h).bind (xl u c e):=rfl
theorem FO:xl u c e true h= .ok true h:=rfl
theorem Hk:xl u c e false h=u c e h:=rfl
theorem FC{p:Prop}[Decidable p]:xl u c e (decide p) h=if p then .ok true h else u c e h:=by unfold xl;by_cases q:p<;>simp[q]
theorem F3{p:Prop}[Decidable p]:xl u c e (!decide p) h=if p then u c e h else .ok true h:=by unfold xl;by_cases q:p<;>simp[q]
noncomputable def IE(x:Bool)(h1:PH):RV Bool:= .ok (!x) h1
theorem FK:AA t c e h=(t c e h).bind IE:=rfl
theorem Ci{p:Bool}:IE p h= .ok (!p) h:=rfl
theorem HM:aP c e h= .ok true h:=rfl
theorem sP:ah c e h= .ok [] h:=rfl
noncomputable def Lk(x:PV)(xs:List PV)(h2:PH):RV (List PV):= .ok (x::xs) h2
noncomputable def KP(r:MA)(c:CF)(e:ao)(x:PV)(h1:PH):RV (List PV):=(r c e h1).bind (Lk x)
theorem lZ:ab a r c e h=(a c e h).bind (KP r c e):=rfl
theorem jU:KP r c e x h=(r c e h).bind (Lk x):=rfl
theorem jM{xs:List PV}:Lk x xs h= .ok (x::xs) h:=rfl
theorem sX{α :Type}{n:Nat}{r:RV α}(hn:n<=16777216):mn n r=r:=by unfold mn;exact if_pos hn
noncomputable def Pa(xs:List PV)(h:PH):RV PV:=mn xs.length (.ok (.tup xs) h)
theorem BR:au r c e h=(r c e h).bind Pa:=rfl
theorem zv{xs:List PV}:Pa xs h=mn xs.length (.ok (.tup xs) h):=(rfl)
noncomputable def Ri(xs:List PV)(h:PH):RV PV:=mn xs.length (.ok (.ref h.length) (h++[.lst xs]))
theorem LM:bN r c e h=(r c e h).bind Ri:=rfl
theorem Fx{xs:List PV}:Ri xs h=mn xs.length (.ok (.ref h.length) (h++[.lst xs])):=(rfl)
theorem zu{f:String}:ag f r c e h=(r c e h).bind (c f):=rfl
theorem OH{f:List PV->PH->RV PV}:eB f r c e h=(r c e h).bind f:=rfl
noncomputable def Sd(f:PV->List PV->PH->RV PV)(ty:PV->PH->Bool)(r:MA)(c:CF)(e:ao)(x:PV)(h1:PH):RV PV:=if ty x h1=true then(r c e h1).bind (f x) else .no
theorem Sq{f:PV->List PV->PH->RV PV}{ty:PV->PH->Bool}:eM f ty a r c e h=(a c e h).bind (Sd f ty r c e):=rfl
noncomputable def Bi(g:PV->PV->PH->RV PV)(d:ME)(c:CF)(e:ao)(y:PV)(k:Bool)(h3:PH):RV PV:=if k=true then(d c e h3).bind (g y) else .ok (.bl false) h3
noncomputable def LN(f g:PV->PV->PH->RV PV)(d:ME)(c:CF)(e:ao)(x y:PV)(h2:PH):RV PV:=((f x y h2).bind uB).bind (Bi g d c e y)
noncomputable def O3(f g:PV->PV->PH->RV PV)(b d:ME)(c:CF)(e:ao)(x:PV)(h1:PH):RV PV:=(b c e h1).bind (LN f g d c e x)
theorem Pp:sO f g a b d c e h=(a c e h).bind (O3 f g b d c e):=rfl
theorem M5:O3 f g b d c e x h=(b c e h).bind (LN f g d c e x):=rfl
theorem KI:LN f g d c e x y h=((f x y h).bind uB).bind (Bi g d c e y):=rfl
theorem F6:Bi g d c e y true h=(d c e h).bind (g y):=rfl
theorem HG:Bi g d c e y false h= .ok (.bl false) h:=rfl
theorem GA{p:Prop}[Decidable p]:Bi g d c e y (decide p) h=if p then(d c e h).bind (g y) else .ok (.bl false) h:=by unfold Bi;by_cases q:p<;>simp[q]
noncomputable def AW(s:MS)(c:CF)(f:Fl)(h1:PH):RV Fl:=match f with
 | .nx e1=>s c e1 h1
 | f=> .ok f h1
theorem ED:ae s s' c e h=(s c e h).bind (AW s' c):=rfl
theorem yZ:AW s c (.nx e) h=s c e h:=(rfl)
theorem Fw:AW s c (.rt v) h= .ok (.rt v) h:=rfl
theorem G7:AW s c (.bk e) h= .ok (.bk e) h:=rfl
theorem Ib:AW s c (.ct e) h= .ok (.ct e) h:=rfl
theorem OM:cP c e h= .ok (.nx e) h:=rfl
noncomputable def Td(e:ao)(_:PV)(h1:PH):RV Fl:= .ok (.nx e) h1
theorem GR:cX a c e h=(a c e h).bind (Td e):=rfl
theorem Ek:Td e x h= .ok (.nx e) h:=rfl
noncomputable def Q4(v:PV)(h1:PH):RV Fl:= .ok (.rt v) h1
theorem Kl:ay a c e h=(a c e h).bind Q4:=rfl
theorem FE:Q4 v h= .ok (.rt v) h:=rfl
noncomputable def wO(s s':MS)(c:CF)(e:ao)(x:Bool)(h1:PH):RV Fl:=if x=true then s c e h1 else s' c e h1
theorem NN:b6 t s s' c e h=(t c e h).bind (wO s s' c e):=rfl
theorem FF:wO s s' c e true h=s c e h:=rfl
theorem FP:wO s s' c e false h=s' c e h:=rfl
theorem HX{p:Prop}[Decidable p]:wO s s' c e (decide p) h=if p then s c e h else s' c e h:=by unfold wO;by_cases q:p<;>simp[q]
theorem EZ{p:Prop}[Decidable p]:wO s s' c e (!decide p) h=if p then s' c e h else s c e h:=by unfold wO;by_cases q:p<;>simp[q]
noncomputable def JD(e1:ao)(h2:PH):RV Fl:= .ok (.nx e1) h2
noncomputable def MQ(g:MG)(e:ao)(v:PV)(h1:PH):RV Fl:=(g v e h1).bind JD
theorem Km{g:MG}:ak a g c e h=(a c e h).bind (MQ g e):=rfl
theorem EW:MQ (gN i) e v h= .ok (.nx (e.set i (some v))) h:=rfl
theorem Fd{n:Nat}{gs:List PV->ao->PH->RV ao}:MQ (gT n gs) e v h=(gT n gs v e h).bind JD:=rfl
theorem Nm:JD e h= .ok (.nx e) h:=rfl
theorem IF:gN i v e h= .ok (e.set i (some v)) h:=rfl
theorem O4{n:Nat}{gs:List PV->ao->PH->RV ao}{xs:List PV}(hn:xs.length=n):gT n gs (.tup xs) e h=gs xs e h:=if_pos hn
theorem Mz{gs:List PV->ao->PH->RV ao}{x1 x2:PV}:gT 2 gs (.tup [x1,x2]) e h=gs [x1,x2] e h:=rfl
theorem Ka{gs:List PV->ao->PH->RV ao}{x1 x2 x3:PV}:gT 3 gs (.tup [x1,x2,x3]) e h=gs [x1,x2,x3] e h:=rfl
theorem MZ{gs:List PV->ao->PH->RV ao}{x1 x2 x3 x4:PV}:gT 4 gs (.tup [x1,x2,x3,x4]) e h=gs [x1,x2,x3,x4] e h:=rfl
theorem LD{gs:List PV->ao->PH->RV ao}{x1 x2 x3 x4 x5:PV}:gT 5 gs (.tup [x1,x2,x3,x4,x5]) e h=gs [x1,x2,x3,x4,x5] e h:=rfl
theorem Mb:eF [] e h= .ok e h:=rfl
theorem ML{g:MG}{r:List PV->ao->PH->RV ao}{t:List PV}:aG g r (v::t) e h=(g v e h).bind (r t):=rfl
noncomputable def BX(f:PV->PV->PV->PH->RV Unit)(e:ao)(v x y:PV)(h3:PH):RV Fl:=(f x y v h3).bind λ_ h4=> .ok (.nx e) h4
noncomputable def BO(f:PV->PV->PV->PH->RV Unit)(i:ME)(c:CF)(e:ao)(v x:PV)(h2:PH):RV Fl:=(i c e h2).bind (BX f e v x)
noncomputable def IY(f:PV->PV->PV->PH->RV Unit)(o i:ME)(c:CF)(e:ao)(v:PV)(h1:PH):RV Fl:=(o c e h1).bind (BO f i c e v)
theorem KH{f:PV->PV->PV->PH->RV Unit}{o i:ME}:eJ f o i a c e h=(a c e h).bind (IY f o i c e):=rfl
theorem GW{f:PV->PV->PV->PH->RV Unit}{o i:ME}:IY f o i c e v h=(o c e h).bind (BO f i c e v):=rfl
theorem HE{f:PV->PV->PV->PH->RV Unit}{i:ME}:BO f i c e v x h=(i c e h).bind (BX f e v x):=rfl
noncomputable def Tc(e:ao)(_:Unit)(h:PH):RV Fl:= .ok (.nx e) h
theorem E4{f:PV->PV->PV->PH->RV Unit}:BX f e v x y h=(f x y v h).bind (Tc e):=rfl
theorem Mr{u:Unit}:Tc e u h= .ok (.nx e) h:=rfl
noncomputable def bA(g:MG)(s:MS)(c:CF)(x:PV)(e:ao)(h:PH):RV Fl:=(g x e h).bind (s c)
noncomputable def fork(g:MG)(s:MS)(c:CF)(e:ao)(it:kQ)(h1:PH):RV Fl:=bJ it (bA g s c) it.items e h1
theorem m7{i:MI}{g:MG}:jv i g s c e h=(i c e h).bind (fork g s c e):=(rfl)
theorem jV{g:MG}{it:kQ}:fork g s c e it h=bJ it (bA g s c) it.items e h:=(rfl)
theorem C4{g:MG}:bA g s c x e h=(g x e h).bind (s c):=(rfl)
theorem DI:j7 a c e h=(a c e h).bind nT:=(rfl)
theorem DC{xs:List PV}:nT (.tup xs) h= .ok ⟨none,xs⟩ h:=(rfl)
theorem JX{xs:List PV}:nT (.ktup xs) h= .ok ⟨none,xs⟩ h:=(rfl)
noncomputable def Rl(n:Nat)(h:PH)(o:Option PO):RV kQ:=match o with
 | some (.lst xs)=> .ok ⟨some n,xs⟩ h
 | some (.kR xs)=> .ok ⟨some n,xs⟩ h
 | _=> .no
theorem tQ{n:Nat}:nT (.ref n) h=Rl n h (h[n]?):=by
 have e:nT (.ref n) h=(match cV h n with | some xs=> .ok ⟨some n,xs⟩ h | none=> .no):=rfl;rw[e];unfold cV Rl;generalize h[n]?=oo;cases oo with
 | none=>rfl
 | some o=>cases o<;>rfl
theorem tO{n:Nat}{xs:List PV}:Rl n h (some (.lst xs))= .ok ⟨some n,xs⟩ h:=(rfl)
theorem Me{n:Nat}{xs:List PV}:Rl n h (some (.kR xs))= .ok ⟨some n,xs⟩ h:=(rfl)
noncomputable def Rt (vs:List PV) (h1:PH):RV kQ:=match vs with
 | [.int j]=>if -(2 ^ 62)<=j∧j < 2 ^ 62 then .ok ⟨none,aE 0 j.toNat⟩ h1 else .no
 | _=> .no
theorem oF : de r c e h = (r c e h).bind Rt := by
  unfold de;generalize r c e h = z;cases z with
  | ok a b =>
    rw [cH, cH]
    unfold Rt
    split
    . rfl
    . rename_i hx
      first
      | rfl
      | (split
         . exact absurd rfl (hx _)
         . rfl)
  | ex a b d => rfl
  | no => rfl
theorem lQ {j:Int} (hj: -4611686018427387904<=j∧j < 4611686018427387904):Rt [.int j] h= .ok ⟨none,aE 0 j.toNat⟩ h:=by
 unfold Rt;exact if_pos (by omega)
noncomputable def Rv (x y:PV) (h2:PH):RV kQ:=match x.seq?,y.seq? with
 | some xs,some ys=> .ok ⟨none,(xs.zip ys).map λp=> .tup [p.1,p.2]⟩ h2
 | _,_=> .no
noncomputable def S5(b:ME)(c:CF)(e:ao)(x:PV)(h1:PH):RV kQ:=(b c e h1).bind (Rv x)
theorem J9:Kc a b c e h=(a c e h).bind (S5 b c e):=(rfl)
theorem GV:S5 b c e x h=(b c e h).bind (Rv x):=(rfl)
theorem DS{xs ys:List PV}:Rv (.ktup xs) (.tup ys) h= .ok ⟨none,(xs.zip ys).map λp=> .tup [p.1,p.2]⟩ h:=(rfl)
theorem Dv{xs ys:List PV}:Rv (.tup xs) (.tup ys) h= .ok ⟨none,(xs.zip ys).map λp=> .tup [p.1,p.2]⟩ h:=(rfl)
noncomputable def RF(it:kQ)(step:PV->ao->PH->RV Fl)(xs:List PV)(f:Fl)(h1:PH):RV Fl:=match f with
 | .nx e1=>bJ it step xs e1 h1
 | .ct e1=>bJ it step xs e1 h1
 | .bk e1=> .ok (.nx e1) h1
 | .rt v=> .ok (.rt v) h1
theorem fZ{xs:List PV}{step:PV->ao->PH->RV Fl}:bJ ⟨none,xs⟩ step [] e h= .ok (.nx e) h:=(rfl)
theorem dh{xs ys:List PV}{step:PV->ao->PH->RV Fl}:bJ ⟨none,xs⟩ step (y::ys) e h=(step y e h).bind (RF ⟨none,xs⟩ step ys):=(rfl)
theorem yH{it:kQ}{step:PV->ao->PH->RV Fl}(hf:it.jt h=true):bJ it step [] e h= .ok (.nx e) h:=by rw[bJ,if_pos hf]
theorem yJ{it:kQ}{ys:List PV}{step:PV->ao->PH->RV Fl}(hf:it.jt h=true):bJ it step (y::ys) e h=(step y e h).bind (RF it step ys):=by rw[bJ,if_pos hf];rfl
theorem bS{it:kQ}{xs:List PV}{step:PV->ao->PH->RV Fl}:RF it step xs (.nx e) h=bJ it step xs e h:=(rfl)
theorem yM{it:kQ}{xs:List PV}{step:PV->ao->PH->RV Fl}:RF it step xs (.rt v) h= .ok (.rt v) h:=(rfl)
noncomputable def M8(ys:List PV)(h2:PH):RV PV:= .ok (.ref h2.length) (h2++[.lst ys])
noncomputable def Qw(k:Nat)(g:MG)(t:MT)(a:ME)(c:CF)(e:ao)(it:kQ)(h1:PH):RV PV:=(fH it (aQ k g t a c e) it.items [] h1).bind M8
theorem P4{k:Nat}{i:MI}{g:MG}:jT k i g t a c e h=(i c e h).bind (Qw k g t a c e):=(rfl)
theorem Nh{k:Nat}{g:MG}{it:kQ}:Qw k g t a c e it h=(fH it (aQ k g t a c e) it.items [] h).bind M8:=(rfl)
theorem KA{ys:List PV}:M8 ys h= .ok (.ref h.length) (h++[.lst ys]):=(rfl)
noncomputable def DO(y:PV)(h4:PH):RV (Option PV):= .ok (some y) h4
noncomputable def uQ(a:ME)(c:CF)(e2:ao)(b:Bool)(h3:PH):RV (Option PV):=if b=true then(a c e2 h3).bind DO else .ok none h3
noncomputable def Pe(t:MT)(a:ME)(c:CF)(e2:ao)(h2:PH):RV (Option PV):=(t c e2 h2).bind (uQ a c e2)
theorem OT{k:Nat}{g:MG}:aQ k g t a c e x h=(g x (e++Up k none) h).bind (Pe t a c):=(rfl)
theorem Nk:Pe t a c e h=(t c e h).bind (uQ a c e):=(rfl)
theorem G9:uQ a c e true h=(a c e h).bind DO:=(rfl)
theorem G3:uQ a c e false h= .ok none h:=(rfl)
theorem Gx{p:Prop}[Decidable p]:uQ a c e (decide p) h=if p then(a c e h).bind DO else .ok none h:=by unfold uQ;by_cases q:p<;>simp[q]
theorem FR{p:Prop}[Decidable p]:uQ a c e (!decide p) h=if p then .ok none h else(a c e h).bind DO:=by unfold uQ;by_cases q:p<;>simp[q]
theorem Na:DO y h= .ok (some y) h:=(rfl)
theorem fE{α :Type}{it:kQ}(hf:it.jt h=true){step:PV->PH->RV (Option PV)}{f: α ->Option PV}{g: α ->PV}: ∀(l:List α)(ys:List PV),(∀ x∈l,step (g x) h= .ok (f x) h)->l.length+ys.length<=16777216->fH it step (l.map g) ys h= .ok (ys++l.filterMap f) h
 | [],ys,_,_=>by rw[UU,fH,if_pos hf];simp
 | x::xs,ys,hs,hl=>by
  have hl':ys.length < sizeLine:=by rw[Um] at hl;show ys.length < 16777216;omega
  rw[Ul,fH,if_pos ⟨hf,hl'⟩,hs x Uv,cH];cases q:f x with
  | none=>exact(fE hf xs ys (λy m=>hs y (Uz _ m)) (by rw[Um] at hl;omega)).trans (by rw[V4 q])
  | some y=>exact(fE hf xs (ys++[y]) (λz m=>hs z (Uz _ m)) (by rw[Um] at hl;simp;omega)).trans (by rw[V5 q];simp)
end
section
variable{h:PH}{i j:Int}{a b:Str}{x y z w u v:PV}{r xs ys:List PV}{p q:Bool}{n m:Nat}
theorem G8:qZ (.int i) (.int j) h= .ok (.int (i - j)) h:=(rfl)
theorem Fn:bf (.int i) (.int j) h= .ok (.int (i+j)) h:=(rfl)
theorem jO(hl:xs.length+ys.length<=16777216):bf (.tup xs) (.tup ys) h= .ok (.tup (xs++ys)) h:=sX hl
theorem og(e1:h[n]?=some (.lst xs))(e2:h[m]?=some (.lst ys))(hl:xs.length+ys.length<=16777216):bf (.ref n) (.ref m) h= .ok (.ref h.length) (h++[.lst (xs++ys)]):=by
 unfold bf;simp only[e1,e2];exact sX (by simpa using hl)
theorem oA(hj:0 < j):fh (.int i) (.int j) h= .ok (.int (i % j)) h:=by unfold fh p2;simp[hj,EL,cH]
theorem Cy(hj:0 < j/\j < 1073741824):ql (.int i) (.int j) h= .ok (.int (i / j)) h:=by unfold ql p2;simp[hj,EL,cH]
theorem tJ(hj:0<=j/\j<=1000000/\i.natAbs < 18446744073709551616):Gb (.int i) (.int j) h= .ok (.int (i ^ j.toNat)) h:=by
 unfold Gb p2;simp only;rw[if_pos (by exact⟨hj.1,hj.2.1,by have:=hj.2.2;omega⟩)];rfl
theorem E8(hi: -18446744073709551616 < i/\i < 18446744073709551616):dA (.int i) (.int j) h= .ok (.int (i*j)) h:=if_pos (.inl (by omega))
theorem sQ(hj: -18446744073709551616 < j/\j < 18446744073709551616):dA (.int i) (.int j) h= .ok (.int (i*j)) h:=if_pos (.inr (by omega))
theorem JV:D6 (.int i) (.int j) h= .ok (.bl (decide (i < j))) h:=(rfl)
theorem MU:RH (.int i) (.int j) h= .ok (.bl (decide (i<=j))) h:=(rfl)
theorem mM:Pu (.int i) (.int j) h= .ok (.bl (decide (j < i))) h:=(rfl)
theorem xU:Sr (.int i) (.int j) h= .ok (.bl (decide (j<=i))) h:=(rfl)
theorem GN:oz (.str a) (.str b) h= .ok (.bl (decide (a=b))) h:=by simp[oz,alike,kf]
theorem ER:oz (.int i) (.int j) h= .ok (.bl (decide (i=j))) h:=by simp[oz,alike,kf]
theorem Gs:iV (.str a) (.str b) h= .ok (.bl (!decide (a=b))) h:=by simp[iV,alike,kf,gF]
theorem Hb:iV (.int i) (.int j) h= .ok (.bl (!decide (i=j))) h:=by simp[iV,alike,kf,gF]
theorem sZ:aw (.tup (x::r)) (.int 0) h= .ok x h:=by
 simp only[aw,dS,qw];rw[if_pos (by decide),if_pos (by simp only[Um];omega)];rfl
theorem jX:aw (.tup (x::y::r)) (.int 1) h= .ok y h:=by
 simp only[aw,dS,qw];rw[if_pos (by decide),if_pos (by simp only[Um];omega)];rfl
theorem uR:aw (.tup (x::y::z::r)) (.int 2) h= .ok z h:=by
 simp only[aw,dS,qw];rw[if_pos (by decide),if_pos (by simp only[Um];omega)];rfl
theorem Bm:aw (.tup (x::y::z::w::r)) (.int 3) h= .ok w h:=by
 simp only[aw,dS,qw];rw[if_pos (by decide),if_pos (by simp only[Um];omega)];rfl
theorem uJ:aw (.tup (x::y::z::w::u::r)) (.int 4) h= .ok u h:=by
 simp only[aw,dS,qw];rw[if_pos (by decide),if_pos (by simp only[Um];omega)];rfl
theorem Lp:aw (.tup (x::y::z::w::u::v::r)) (.int 5) h= .ok v h:=by
 simp only[aw,dS,qw];rw[if_pos (by decide),if_pos (by simp only[Um];omega)];rfl
theorem kC(e:dS xs i=some v):aw (.tup xs) (.int i) h= .ok v h:=by simp only[aw,e]
theorem cZ{α :Type}{xs:List α}{i:Int}{n:Nat}(e:i=(n:Int)){v: α}(q:xs[n]?=some v):dS xs i=some v:=by
 have hl:n < xs.length:=(Uh.mp q).1;subst e;unfold dS qw;rw[if_pos (by omega),if_pos (by omega)];simpa using q
noncomputable def N4(y:PV)(h:PH)(o:Option PO):RV PV:=match o with
 | some (.dct kvs)=>(match iF y with
  | some k=>(match bT kvs k with | some v=> .ok v h | none=> .no)
  | none=> .no)
 | some (.lst xs)=>(match y with
  | .int i=>(match dS xs i with | some v=> .ok v h | none=> .no)
  | _=> .no)
 | some (.kR xs)=>(match y with
  | .int i=>(match dS xs i with | some v=> .ok v h | none=> .no)
  | _=> .no)
 | none=> .no
theorem jk:aw (.ref n) y h=N4 y h (h[n]?):=by
 unfold N4;simp only[aw]
 all_goals (generalize h[n]?=oo;rcases oo with _ | o<;>first | rfl | (cases o<;>rfl))
noncomputable def O8(h:PH)(o:Option PV):RV PV:=match o with
 | some v=> .ok v h
 | none=> .no
theorem NI{kvs:List (Key × PV)}:N4 (.str a) h (some (.dct kvs))=O8 h (bT kvs (.inr a)):=(rfl)
theorem lF:N4 (.int i) h (some (.lst xs))=O8 h (dS xs i):=(rfl)
theorem P9:N4 (.int i) h (some (.kR xs))=O8 h (dS xs i):=(rfl)
theorem EV:O8 h (some v)= .ok v h:=(rfl)
theorem sy{k:Key}{kvs:List (Key × PV)}:bT ((k,v)::kvs) k=some v:=by simp[bT]
theorem wq{k k':Key}{kvs:List (Key × PV)}(ne:k'≠k):bT ((k',v)::kvs) k=bT kvs k:=by simp[bT,ne]
noncomputable def ya(n:Nat)(y v:PV)(h:PH)(o:Option PO):RV Unit:=match o with
 | some (.dct kvs)=>(match iF y with
  | some k=>if kvs.length < sizeLine then .ok () (h.set n (.dct (cM kvs k v))) else .no
  | none=> .no)
 | some (.lst xs)=>(match y with
  | .int i=>(match qw xs.length i with | some j=> .ok () (h.set n (.lst (xs.set j v))) | none=> .no)
  | _=> .no)
 | _=> .no
theorem Cf:dI (.ref n) y v h=ya n y v h (h[n]?):=by
 unfold ya;simp only[dI]
 all_goals (generalize h[n]?=oo;rcases oo with _ | o<;>first | rfl | (cases o<;>rfl))
theorem kg{kvs:List (Key × PV)}(hl:kvs.length < 16777216):ya n (.str a) v h (some (.dct kvs))= .ok () (h.set n (.dct (cM kvs (.inr a) v))):=if_pos hl
theorem lM{m:Nat}(e:i=(m:Int))(hm:m < xs.length):ya n (.int i) v h (some (.lst xs))= .ok () (h.set n (.lst (xs.set m v))):=by
 have:qw xs.length i=some m:=by unfold qw;rw[if_pos (by omega),if_pos (by omega)];congr 1;omega
 simp only[ya,this]
noncomputable def R8(n:Nat)(v:PV)(h:PH)(o:Option PO):RV PV:=match o with
 | some (.lst xs)=>if xs.length < sizeLine then .ok .non (h.set n (.lst (xs++[v]))) else .no
 | _=> .no
theorem RU:bu (.ref n) [v] h=R8 n v h (h[n]?):=by
 unfold R8;simp only[bu]
 all_goals (generalize h[n]?=oo;rcases oo with _ | o<;>first | rfl | (cases o<;>rfl))
theorem pY(hl:xs.length < 16777216):R8 n v h (some (.lst xs))= .ok .non (h.set n (.lst (xs++[v]))):=if_pos hl
theorem len_T:cD [.tup xs] h= .ok (.int xs.length) h:=(rfl)
theorem OZ(e:h[n]?=some (.kR xs)):cD [.ref n] h= .ok (.int xs.length) h:=by simp[cD,itemsOf,cV,e]
theorem NU:gU [.tup xs] h= .ok (.ref h.length) (h++[.lst xs]):=(rfl)
theorem QZ:uU [.bl p] h= .ok (.int (if p then 1 else 0)) h:=(rfl)
theorem QJ:hI false .non h= .ok (.bl true) h:=(rfl)
theorem Qj:hI false (.int i) h= .ok (.bl false) h:=by simp[hI]
theorem IW:hI false (.tup xs) h= .ok (.bl false) h:=by simp[hI]
theorem Mq:hI true .non h= .ok (.bl false) h:=(rfl)
section
variable{c:CF}{e:ao}{d k1 k2:ME}{rr:MA}{kvs:List (Key × PV)}{ff:PV->List PV->PH->RV PV}
noncomputable def SX(a:Str)(z:PV)(h:PH)(o:Option PO):RV PV:=match o with
 | some (.dct kvs)=> .ok ((bT kvs (.inr a)).getD z) h
 | _=> .no
noncomputable def Rk(x y z:PV)(h3:PH):RV PV:=match x,iF y with
 | .ref n,some key=>(match h3[n]? with
  | some (.dct kvs)=> .ok ((bT kvs key).getD z) h3
  | _=> .no)
 | _,_=> .no
noncomputable def RB(b:ME)(c:CF)(e:ao)(x y:PV)(h2:PH):RV PV:=(b c e h2).bind (Rk x y)
noncomputable def R6(a b:ME)(c:CF)(e:ao)(x:PV)(h1:PH):RV PV:=if gF h1 x=true then(a c e h1).bind (RB b c e x) else .no
noncomputable def Su(a b:ME)(c:CF)(e:ao)(n:Nat)(h:PH)(o:Option PO):RV PV:=match o with
 | some (.dct _)=>(a c e h).bind (RB b c e (.ref n))
 | _=> .no
theorem MK:yR d k1 k2 c e h=(d c e h).bind (R6 k1 k2 c e):=(rfl)
theorem FU:R6 k1 k2 c e (.ref n) h=Su k1 k2 c e n h (h[n]?):=by
 unfold R6 Su gF;cases q:h[n]? with
 | none=>simp[q]
 | some o=>cases o<;>simp[q]
theorem Cd:Su k1 k2 c e n h (some (.dct kvs))=(k1 c e h).bind (RB k2 c e (.ref n)):=(rfl)
theorem Hh:RB k2 c e x y h=(k2 c e h).bind (Rk x y):=(rfl)
theorem Gk:Rk (.ref n) (.str a) z h=SX a z h (h[n]?):=by
 unfold Rk SX iF;simp only
theorem Eh:SX a z h (some (.dct kvs))= .ok ((bT kvs (.inr a)).getD z) h:=(rfl)
noncomputable def RY(f:PV->List PV->PH->RV PV)(r:MA)(c:CF)(e:ao)(n:Nat)(h:PH)(o:Option PO):RV PV:=match o with
 | some (.lst _)=>(r c e h).bind (f (.ref n))
 | _=> .no
theorem Oq:Sd ff bY rr c e (.ref n) h=RY ff rr c e n h (h[n]?):=by
 unfold Sd RY bY;cases q:h[n]? with
 | none=>simp[q]
 | some o=>cases o<;>simp[q]
theorem Jm:RY ff rr c e n h (some (.lst xs))=(rr c e h).bind (ff (.ref n)):=(rfl)
noncomputable def Jn(ys:List PV)(h:PH)(o:Option (List (Key × PV))):RV PV:=match o with
 | some kvs=>if ys.length < sizeLine then .ok (.ref h.length) (h++[.dct (bW [] kvs)]) else .no
 | none=> .no
theorem Mj:ia [.tup ys] h=Jn ys h (jn ys):=by
 unfold ia Jn;cases q:jn ys<;>simp[q]
theorem DK(hl:ys.length < 16777216):Jn ys h (some kvs)= .ok (.ref h.length) (h++[.dct (bW [] kvs)]):=if_pos hl
theorem Cr:tP c e h= .ok (.ref h.length) (h++[.dct []]):=(rfl)
end
noncomputable def SO(h:PH)(o:Option PO):RV PV:=match o with
 | some (.lst xs)=> .ok (.tup xs) h
 | some (.kR xs)=> .ok (.tup xs) h
 | _=> .no
theorem tD:aN [.ref n] h=SO h (h[n]?):=by
 unfold SO;cases q:h[n]? with
 | none=>simp[aN,cV,q]
 | some o=>cases o<;>simp[aN,cV,q]
theorem p7:SO h (some (.lst xs))= .ok (.tup xs) h:=(rfl)
noncomputable def SK(h:PH)(o:Option PO):RV PV:=match o with
 | some (.lst xs)=> .ok (.int xs.length) h
 | some (.kR xs)=> .ok (.int xs.length) h
 | some (.dct kvs)=> .ok (.int kvs.length) h
 | _=> .no
theorem CB:cD [.ref n] h=SK h (h[n]?):=by
 unfold SK;cases q:h[n]? with
 | none=>simp[cD,itemsOf,cV,q]
 | some o=>cases o<;>simp[cD,itemsOf,cV,q]
theorem xY:SK h (some (.lst xs))= .ok (.int xs.length) h:=(rfl)
noncomputable def R9(h:PH)(o:Option PO):RV PV:=match o with
 | some (.lst xs)=> .ok (.ref h.length) (h++[.lst xs])
 | some (.kR xs)=> .ok (.ref h.length) (h++[.lst xs])
 | _=> .no
theorem B1:gU [.ref n] h=R9 h (h[n]?):=by
 unfold R9;cases q:h[n]? with
 | none=>simp[gU,itemsOf,cV,q]
 | some o=>cases o<;>simp[gU,itemsOf,cV,q]
theorem zB:R9 h (some (.lst xs))= .ok (.ref h.length) (h++[.lst xs]):=(rfl)
theorem ji{a:Str}: ∀{ss:List Str},((ss.map PV.str).any λz=>N8 z (.str a))=decide (a∈ss)
 | []=>by simp
 | x::t=>by
  rw[Ul,VJ,ji];by_cases e:x=a
  . subst e;simp[N8]
  . have e': ¬ a=x:=λz=>e z.symm;simp[N8,e,e']
theorem all_strs: ∀{ss:List Str},((ss.map PV.str).all fO)=true
 | []=>rfl
 | x::t=>by rw[Ul,Xs,all_strs];rfl
theorem xq{ss:List Str}:iW (.str a) (.tup (ss.map PV.str)) h= .ok (.bl (decide (a∈ss))) h:=by
 have:isIn (.str a) (.tup (ss.map PV.str)) h=some (decide (a∈ss)):=by
  unfold isIn;simp only[itemsOf,all_strs,fO,Xu,if_true,ji]
 unfold iW;rw[this]
theorem yE{ss:List Str}:ko (.str a) (.tup (ss.map PV.str)) h= .ok (.bl (!decide (a∈ss))) h:=by
 have:isIn (.str a) (.tup (ss.map PV.str)) h=some (decide (a∈ss)):=by
  unfold isIn;simp only[itemsOf,all_strs,fO,Xu,if_true,ji]
 unfold ko;rw[this]
theorem in_K{ss:List Str}:iW (.str a) (.ktup (ss.map PV.str)) h= .ok (.bl (decide (a∈ss))) h:=by
 have:isIn (.str a) (.ktup (ss.map PV.str)) h=some (decide (a∈ss)):=by
  unfold isIn;simp only[itemsOf,all_strs,fO,Xu,if_true,ji]
 unfold iW;rw[this]
section
variable{c:CF}{e:ao}{d:ME}{kvs:List (Key × PV)}
noncomputable def TB(kvs:List (Key × PV))(x:PV)(h:PH):RV PV:=match iF x with
 | some key=>(match bT kvs key with
  | some v=> .ok v h
  | none=> .no)
 | none=> .no
theorem Py:rW kvs d c e h=(d c e h).bind (TB kvs):=(rfl)
theorem K9:TB kvs (.str a) h=O8 h (bT kvs (.inr a)):=(rfl)
end
section
variable{c:CF}{e:ao}{d:ME}{l uu:MO}
noncomputable def MB(uu:MO)(c:CF)(e:ao)(x:PV)(lo:Option Int)(h:PH):RV PV:=(uu c e h).bind (Hg x lo)
noncomputable def Pm(l uu:MO)(c:CF)(e:ao)(x:PV)(h:PH):RV PV:=(l c e h).bind (MB uu c e x)
theorem PK:AQ d l uu c e h=(d c e h).bind (Pm l uu c e):=(rfl)
theorem Lg:Pm l uu c e x h=(l c e h).bind (MB uu c e x):=(rfl)
theorem NT{lo:Option Int}:MB uu c e x lo h=(uu c e h).bind (Hg x lo):=(rfl)
theorem Ov:jf c e h= .ok none h:=(rfl)
noncomputable def S6(v:PV)(h1:PH):RV (Option Int):=match v with
 | .int i=> .ok (some i) h1
 | _=> .no
theorem Ql:gp d c e h=(d c e h).bind S6:=(rfl)
theorem MM:S6 (.int i) h= .ok (some i) h:=(rfl)
theorem Ot{lo hi:Option Int}:Hg (.tup xs) lo hi h= .ok (.tup (gD xs lo hi)) h:=(rfl)
noncomputable def SF(lo hi:Option Int)(h:PH)(o:Option PO):RV PV:=match o with
 | some (.lst xs)=> .ok (.ref h.length) (h++[.lst (gD xs lo hi)])
 | some (.kR xs)=> .ok (.ref h.length) (h++[.lst (gD xs lo hi)])
 | _=> .no
theorem SV{lo hi:Option Int}:Hg (.ref n) lo hi h=SF lo hi h (h[n]?):=by
 unfold SF;cases q:h[n]? with
 | none=>simp[Hg,cV,q]
 | some o=>cases o<;>simp[Hg,cV,q]
theorem Qc{lo hi:Option Int}:SF lo hi h (some (.lst xs))= .ok (.ref h.length) (h++[.lst (gD xs lo hi)]):=(rfl)
theorem lG{lo:Int}(h0:0<=lo):gD xs (some lo) none=xs.drop lo.toNat:=by
 have e:lo=((lo.toNat:Nat):Int):=by omega
 unfold gD;rw[e,HT.oh,HT.lu];simp only[Vr];rcases ZO lo.toNat xs.length with z | z
 . rw[Xy z];exact VT (by rw[V1];omega)
 . rw[X6 z,VB (Uo _),VB z];simp
theorem sJ{hi:Int}(h0:0<=hi):gD xs none (some hi)=xs.take hi.toNat:=by
 have e:hi=((hi.toNat:Nat):Int):=by omega
 unfold gD;rw[e,HT.oh,HT.lu];simp only[Vr,aai,aa8];rcases ZO hi.toNat xs.length with z | z
 . rw[Xy z]
 . rw[X6 z,VT (Uo _),VT z]
end
variable{o o':PO}{g:PH}{k:Nat}
theorem bM:(h++(o::g))[h.length]?=some o:=by rw[UM (Uo _)];simp
theorem bo:(h++g)[h.length+k]?=g[k]?:=by rw[UM (by omega)];congr 1;omega
theorem aq(hn:n < h.length):(h++g)[n]?=h[n]?:=U4 hn
theorem gW:(h++g).set h.length o=h++g.set 0 o:=by rw[Z7 _ _ (Uo _)];simp
theorem xy:(h++g).set (h.length+k) o=h++g.set k o:=by rw[Z7 _ _ (by omega)];congr 2;omega
theorem aA(e:h[n]?=some o):n < h.length:=(Uh.mp e).1
end
section
variable{h:PH}{i j:Int}{a b:Str}{x y z w u v:PV}{r xs ys:List PV}{p q:Bool}{n m:Nat}
theorem Ku:Am [.int i,.ty "bool"] h= .ok (.bl false) h:=(rfl)
theorem NR:Am [.int i,.ty "int"] h= .ok (.bl true) h:=(rfl)
theorem q9:dS (x::r) 0=some x:=by simp only[dS,qw];rw[if_pos (by decide),if_pos (by simp only[Um];omega)];rfl
theorem xC:dS (x::y::r) 1=some y:=by simp only[dS,qw];rw[if_pos (by decide),if_pos (by simp only[Um];omega)];rfl
theorem x8:dS (x::y::z::r) 2=some z:=by simp only[dS,qw];rw[if_pos (by decide),if_pos (by simp only[Um];omega)];rfl
theorem Dz:dS (x::y::z::w::r) 3=some w:=by simp only[dS,qw];rw[if_pos (by decide),if_pos (by simp only[Um];omega)];rfl
end
section
variable{c:CF}{e:ao}{h h1:PH}{a b:ME}{r:MP}{x y v:PV}{kvs:List (Key × PV)}{key:Key}{s:Str}{i:Int}{n:Nat}
noncomputable def Oa(n:Nat)(kvs:List (Key × PV))(h1:PH):RV PV:=if h1[n]?=some (.dct [])/\kvs.length<=15 then .ok (.ref n) (h1.set n (.dct (bW [] kvs))) else .no
noncomputable def R7(key:Key)(v:PV)(kvs:List (Key × PV))(h3:PH):RV (List (Key × PV)):= .ok ((key,v)::kvs) h3
noncomputable def Sl(key:Key)(r:MP)(c:CF)(e:ao)(v:PV)(h2:PH):RV (List (Key × PV)):=(r c e h2).bind (R7 key v)
noncomputable def TJ(b:ME)(r:MP)(c:CF)(e:ao)(x:PV)(h1:PH):RV (List (Key × PV)):=match iF x with
 | some key=>(b c e h1).bind (Sl key r c e)
 | none=> .no
theorem lA:uD r c e h=(r c e (h++[.dct []])).bind (Oa h.length):=(rfl)
theorem oG:B2 c e h= .ok [] h:=(rfl)
theorem pQ:fA a b r c e h=(a c e h).bind (TJ b r c e):=(rfl)
theorem k4:TJ b r c e (.str s) h=(b c e h).bind (Sl (.inr s) r c e):=(rfl)
theorem oV:Sl key r c e v h=(r c e h).bind (R7 key v):=(rfl)
theorem pj:R7 key v kvs h= .ok ((key,v)::kvs) h:=(rfl)
theorem B4(h1:h[n]?=some (.dct []))(h2:kvs.length<=15):Oa n kvs h= .ok (.ref n) (h.set n (.dct (bW [] kvs))):=if_pos ⟨h1,h2⟩
theorem yO(h2:kvs.length<=15):Oa h.length kvs (h++[.dct []])= .ok (.ref h.length) (h++[.dct (bW [] kvs)]):=by
 rw[B4 bM h2,gW];rfl
end
section
variable{α :Type}{p:List α ->Prop}
theorem TQ(h:p []): ∀ us:List α,us.length=0->p us:=λus e=>by rw[List.length_eq_zero_iff.mp e];exact h
theorem QD{n:Nat}(h: ∀ a: α,∀ us:List α,us.length=n->p (a::us)): ∀ us:List α,us.length=n+1->p us:=λus e=>by
 cases us with
 | nil=>simp at e
 | cons a r=>exact h a r (by simpa using e)
theorem Ta(h: ∀ a,p [a]): ∀ us:List α,us.length=1->p us:=QD λa=>TQ (h a)
theorem Tn(h: ∀ a b,p [a,b]): ∀ us:List α,us.length=2->p us:=QD λa=>Ta (h a)
theorem S9(h: ∀ a b c,p [a,b,c]): ∀ us:List α,us.length=3->p us:=QD λa=>Tn (h a)
theorem TM(h: ∀ a b c d,p [a,b,c,d]): ∀ us:List α,us.length=4->p us:=QD λa=>S9 (h a)
theorem Ub(h: ∀ a b c d e,p [a,b,c,d,e]): ∀ us:List α,us.length=5->p us:=QD λa=>TM (h a)
end
section
variable{X:Cx}{pg:Tb}{k:Nat}{e iter:Expr}{ma:ME}{mt:MT}{mI:MI}{scope:Scope}{ifs:List Expr}{pos spos py vp wp tp:Pos}{y v w:Str}{i j m n:Nat}
theorem GC.of{K:Ud}(h:Yv n i=true):GC K n (eA i) (gN i):=HZ (Nat.le_of_ble_eq_true h)
theorem Jp(hi:JI X pg k (.Name v vp) iter mI)
  (hb: ∀ cl C s₀ H₀ ex pn,(dm X pg k->QG (fk X [v] scope cl C s₀ H₀ ex pn) (.Name v vp) (eA m))/\JF (fk X [v] scope cl C s₀ H₀ ex pn) pg k ifs mt/\JE (fk X [v] scope cl C s₀ H₀ ex pn) pg k e ma)
  (hm:Yv X.N.length m=true:=by rfl) (hkind:scope.kind= .function:=by rfl) (hlc:iO scope.names X.env.scope.names X.N [v]=true:=by rfl) (hs: ∀ x,U9 iter X.env x=pure x:=by intro _;rfl) :
  JE X pg k (.ListComp e [⟨.Name v vp,iter,ifs,0⟩] scope pos) (jT 1 mI (gN m) mt ma):=pV [v] hkind hlc hi hb (GC.of hm) hs
theorem Nb(hi:JI X pg k (.Tuple [.Name v vp,.Name w wp] j tp) iter mI)
  (hb: ∀ cl C s₀ H₀ ex pn,(dm X pg k->QG (fk X [v,w] scope cl C s₀ H₀ ex pn) (.Tuple [.Name v vp,.Name w wp] j tp) (wb X.K 2 (jB (eA m) (jB (eA n) yt))))/\JF (fk X [v,w] scope cl C s₀ H₀ ex pn) pg k ifs mt/\JE (fk X [v,w] scope cl C s₀ H₀ ex pn) pg k e ma)
  (hm:Yv X.N.length m=true:=by rfl) (hn:Yv X.N.length n=true:=by rfl) (hkind:scope.kind= .function:=by rfl) (hlc:iO scope.names X.env.scope.names X.N [v,w]=true:=by rfl) (hs: ∀ x,U9 iter X.env x=pure x:=by intro _;rfl) :
  JE X pg k (.ListComp e [⟨.Tuple [.Name v vp,.Name w wp] j tp,iter,ifs,0⟩] scope pos) (jT 2 mI (gT 2 (aG (gN m) (aG (gN n) eF))) mt ma):=pV [v,w] hkind hlc hi hb (w9 (gz (GC.of hm) (gz (GC.of hn) um))) hs
theorem MH(hN:X.N.Nodup)(hi:JI X pg k (.Name v vp) iter mI)
  (hb: ∀ cl C s₀ H₀ ex pn,(dm X pg k->QG (fk X [v] scope cl C s₀ H₀ ex pn) (.Name v vp) (eA m))/\JF (fk X [v] scope cl C s₀ H₀ ex pn) pg k ifs mt/\JE (fk X [v] scope cl C s₀ H₀ ex pn) pg k e ma)
  (hm:Yv X.N.length m=true:=by rfl) (hiy:X.N[i]?=some y:=by rfl) (hy:Loc X.env.scope y:=by first | exact abl rfl | exact aah rfl) (hkind:scope.kind= .function:=by rfl) (hlc:iO scope.names X.env.scope.names X.N [v]=true:=by rfl)
  (hsw:W4 (.ListComp e [⟨.Name v vp,iter,ifs,0⟩] scope pos) (some (.Name y py)) spos.line X.env=pure true:=by rfl) (hs: ∀ x,U9 iter X.env x=pure x:=by intro _;rfl)
  (hf:X.fn y=true\/X.env.scope.names.lookup y=some .local:=by first | exact .inl rfl | exact .inr rfl | assumption) :
  JS X pg k (.Assign [.Name y py] (.ListComp e [⟨.Name v vp,iter,ifs,0⟩] scope pos) spos) (ak (jT 1 mI (gN m) mt ma) (gN i)):=wx [v] i hkind hlc hN hiy hy hi hb (GC.of hm) hsw hs hf
theorem Jx(hN:X.N.Nodup)(hi:JI X pg k (.Tuple [.Name v vp,.Name w wp] j tp) iter mI)
  (hb: ∀ cl C s₀ H₀ ex pn,(dm X pg k->QG (fk X [v,w] scope cl C s₀ H₀ ex pn) (.Tuple [.Name v vp,.Name w wp] j tp) (wb X.K 2 (jB (eA m) (jB (eA n) yt))))/\JF (fk X [v,w] scope cl C s₀ H₀ ex pn) pg k ifs mt/\JE (fk X [v,w] scope cl C s₀ H₀ ex pn) pg k e ma)
  (hm:Yv X.N.length m=true:=by rfl) (hn:Yv X.N.length n=true:=by rfl) (hiy:X.N[i]?=some y:=by rfl) (hy:Loc X.env.scope y:=by first | exact abl rfl | exact aah rfl) (hkind:scope.kind= .function:=by rfl) (hlc:iO scope.names X.env.scope.names X.N [v,w]=true:=by rfl)
  (hsw:W4 (.ListComp e [⟨.Tuple [.Name v vp,.Name w wp] j tp,iter,ifs,0⟩] scope pos) (some (.Name y py)) spos.line X.env=pure true:=by rfl) (hs: ∀ x,U9 iter X.env x=pure x:=by intro _;rfl)
  (hf:X.fn y=true\/X.env.scope.names.lookup y=some .local:=by first | exact .inl rfl | exact .inr rfl | assumption) :
  JS X pg k (.Assign [.Name y py] (.ListComp e [⟨.Tuple [.Name v vp,.Name w wp] j tp,iter,ifs,0⟩] scope pos) spos) (ak (jT 2 mI (gT 2 (aG (gN m) (aG (gN n) eF))) mt ma) (gN i)):=wx [v,w] i hkind hlc hN hiy hy hi hb (w9 (gz (GC.of hm) (gz (GC.of hn) um))) hsw hs hf
end
end P3
end
section
open PySem PySem.W PyProof.Rows
namespace L2
open PySem PySem.Spec PyProof.Rows
theorem ly{a:Str}: ∀{us:List Value}{ss:List Str},Yt us ss-> ∀(i:Nat)(hu:i < us.length)(hs:i < ss.length),Yx a us[i]=(ss[i] == a)
 | _,_,.nil,i,hu,_=>absurd hu (Ym i)
 | _,_,.cons x t h,0,_,_=>rfl
 | _,_,.cons x t h,i+1,hu,hs=>ly h i (ZR hu) (ZR hs)
theorem wA{a:Str}{ss:List Str}(h:a∈ss):ss.idxOf a < ss.length:=List.idxOf_lt_length_iff.mpr h
section
variable{X:Cx}
noncomputable def Fc:V->List V->Hp->VK->Prop:=λx vs H Q=> ∃(l:Addr)(ss:List Str)(a:Str),x= .ref l/\vs=[.str a]/\H l=some (.lst (ss.map V.str))/\a∈ss/\Q .non (upd H l (.lst ((ss.map V.str).eraseIdx (ss.idxOf a))))
theorem zJ:Rj X "list.remove" Fc:=by
 intro pins s σ H x vs v us Q I rx rv h;obtain⟨l,ss,a,rfl,rfl,hH,ha,q⟩:=h;cases rx;obtain⟨u,rfl,t,rfl⟩:=rv.one;obtain⟨z,aj,n,r,hl,e⟩:=I.Au hH;have sa:=fQ r;have ln:aj.length=ss.length:=by rw[<- hl,Ui]
 have hj:=wA ha;refine Wb F.slot_list_remove ⟨_,e,rfl⟩ F.entry_list_remove (F.args_list_remove_2 _ _)
  (MeetsSeq.list_remove l aj.toArray n (.str a t) (Yx a) (λy hy=>eq_isStrOf a t sa y (by simpa using hy)) (ss.idxOf a) (by rw[Uw,ln];exact hj) ?_ ?_ (by rw[Uw,<- hl];exact z)) ⟨e,?_⟩
 . show Yx a (aj[ss.idxOf a]'(by rw[ln];exact hj))=true;rw[ly sa _ _ hj,aaX hj,beq_self_eq_true]
 . intro m hm hlt;have hm':m < ss.length:=by rw[Uw,ln] at hm;exact hm
   show Yx a (aj[m]'(by rw[ln];exact hm'))=false;rw[ly sa _ _ hm'];have:=ZS (p:=(· == a)) (xs:=ss) (i:=m) hlt
   simpa using this
 . refine⟨.non,_,I.OV (its':=aj.eraseIdx (ss.idxOf a)) hH e ?_ (r.eraseIdx _) ?_,rfl,q⟩
   . show aj.toArray.eraseIdxIfInBounds (ss.idxOf a)=(aj.eraseIdx (ss.idxOf a)).toArray;rw[List.eraseIdxIfInBounds_toArray]
   . have:=rE (ss.map V.str) (ss.idxOf a);omega
end
end L2
namespace P3
open PySem PySem.Spec PyProof.Rows L2
section
variable{X:Cx}{pg:Tb}{k:Nat}
theorem rX{α β :Type}(f: α -> β): ∀(l:List α)(i:Nat),(l.map f).eraseIdx i=(l.eraseIdx i).map f
 | [],i=>by simp
 | a::r,0=>rfl
 | a::r,i+1=>by simp[rX f r i]
noncomputable def qK(ss:List Str)(a:Str):List Str:=ss.eraseIdx (ss.idxOf a)
noncomputable def lx:PV->List PV->PH->RV PV:=λx vs h=>match x,vs with
 | .ref n,[.str a]=>(match h[n]? with
  | some (.lst xs)=>(match fe xs with
   | some ss=>if a∈ss then .ok .non (h.set n (.lst ((qK ss a).map PV.str))) else .no
   | none=> .no)
  | _=> .no)
 | _,_=> .no
theorem CG:dm X pg k-> ∃ r,Jg X "list.remove" r/\RD X.K "list" r lx bY:=λA=>⟨_,zJ,fun ρ h H x x' s r e=>pd s r e,fun ρ h H x x' xs us Q v h' s rx rs q P=>by
 unfold lx at q;split at q
 . rename_i n a;split at q
   . rename_i ys en;split at q
     . rename_i ss es;split at q
       . rename_i ha;cases q;obtain⟨b,vs,rfl,ea,e1,e2⟩:=s.lst en rx;obtain⟨u,rfl,r⟩:=aR rs;rw[rel] at r;subst r;rw[fc es,bX] at e2;subst e2;have g:Gr ρ H ρ (upd H b (.lst ((ss.map V.str).eraseIdx (ss.idxOf a)))):=Gr.write (.inl ⟨_,e1⟩);refine⟨b,ss,a,rfl,rfl,e1,ha,P _ ρ _ g (s.write en ea rfl rfl ⟨_,bz,?_⟩) (by rw[rel])⟩;rw[bX,qK,rX]
       . exact nomatch q
     . exact nomatch q
   . exact nomatch q
 . exact nomatch q⟩
end
section
variable{h:PH}{n:Nat}{ss:List Str}{a:Str}{y:PV}{r:List PV}
theorem Ss(e:h[n]?=some (.lst (ss.map PV.str)))(ha:a∈ss):lx (.ref n) [.str a] h= .ok .non (h.set n (.lst ((qK ss a).map PV.str))):=by
 simp only[lx,e,cF,if_pos ha]
end
section
variable{X:Cx}{pg:Tb}{k j n:Nat}{es:List Expr}{t:uA}{pos:Pos}{vars:List Str}{scope:Scope}{cl:List (Str × Addr)}{C:Addr}{s0:Uj}{H0:Hp}{ex:List Addr}{pn:List (Addr × Obj)}
theorem HL(A:dm X pg k)(h:Mm (fk X vars scope cl C s0 H0 ex pn) es t)(hn:(Vv es (fk X vars scope cl C s0 H0 ex pn).env).length=n:=by rfl)(hst:(Vv es (fk X vars scope cl C s0 H0 ex pn).env).findIdx? (·.1)=none:=by rfl):QG (fk X vars scope cl C s0 H0 ex pn) (.Tuple es j pos) (wb X.K n t):=Es A.calm h hn hst
end
section
variable{X:Cx}{pg:Tb}{k:Nat}
noncomputable def Rg(K:Ud):List V->Hp->VK->Prop:=λxs H Q=> ∃ p d,xs=[.ref p]/\bV K H d (.ref p)/\d.showable=true/\d.hasDict=false/\d.depth<=64/\d.shown.length<=sizeLine/\Q (.str d.shown) H
theorem Er(gd:X.A.guards=some [])(hu:X.A.units+66 < cLine):aV X (.builtin "repr") (Rg X.K):=by
 intro pins s σ H xs us Q I r h;obtain⟨p,d,rfl,hd,h1,h2,h3,h4,q⟩:=h;obtain⟨u,rfl,ru⟩:=vals1 r;cases(show u=UJ p from ru);obtain⟨as,ra⟩:=bV.reads I d _ _ hd ru;exact repr_of_reads' ra h1 (λz=>by rw[h2] at z;exact nomatch z) gd (by omega) (λ_ _ z=>z) (λh' u tk kp=>⟨.str d.shown,H,I.kept kp,⟨u,rfl⟩,q⟩) h4
theorem yS: ∀(n b:Nat)(vs:List Value),vs.length=n->(∀ j v,vs[j]?=some v-> ∃ t,v=Xf ((b+j:Nat):Int) t)->Vals ((abB b n).map λi:Nat=>V.int (i:Int)) vs
 | 0,b,vs,hl,_=>by
  cases vs with
  | nil=>exact .nil
  | cons v r=>exact nomatch hl
 | n+1,b,vs,hl,h=>by
  cases vs with
  | nil=>exact nomatch hl
  | cons v r =>
   rw[abp,Ul]
   refine .cons ?_ (yS n (b+1) r (by simpa using hl) λj v e=>?_)
   . obtain⟨t,rfl⟩:=h 0 v rfl;exact⟨t,rfl⟩
   . obtain⟨t,rfl⟩:=h (j+1) v e;exact⟨t,by congr 2;omega⟩
variable{a:Expr}{ta:TA}{mr:MA}{p p2 p3 pos:Pos}
noncomputable def TX(ta:TA):TE:=fun σ H Q=>ta σ H λvs H1=> ∃ n:Nat,vs=[.int n]/\n<=100000/\ ∀ l,H1 l=none->Q (.ref l) (upd H1 l (.lst ((Vn n).map λi:Nat=>V.int (i:Int))))
theorem Ad(hL:Gl X "list")(mL:X.mg "list" =none)(hR:Gl X "range")(mR:X.mg "range" =none)(hd:X.A.handled=none)(ha:PA X [a] ta)(hs:U7 [a] X.env=[(false,eval a X.env)])(hs2:U7 [.Call (.Name "range" p2) [a] [] p3] X.env=[(false,eval (.Call (.Name "range" p2) [a] [] p3) X.env)]) :
  PE X (.Call (.Name "list" p) [.Call (.Name "range" p2) [a] [] p3] [] pos) (TX ta):=by
 intro pins s σ H Q I h;refine Call_ (kM I hL mL boot_list (VO ?_ hs2 rfl));rw[hs2];refine XA ?_;refine Call_ (kM I hR mR boot_range (VO (cL (ha p3 pins s σ H _ I h) λus s1 ⟨vs,H1,I1,r1,q1⟩=>?_) hs rfl));obtain⟨n,e,hn,q⟩:=q1;subst e;cases r1 with
 | cons r rr =>
  cases rr
  obtain⟨t,rfl⟩:=r
  refine call_range_1 (YY ?_)
  have rs:Zn 0 (n:Int) 1=(n:Nat):=by rw[rangeSize_one];split<;>omega
  refine call_list_range hd (abX ..) (small_one (by omega) (by omega) (by omega) (by omega)) rs (by omega) λh' tk acc c' kp e it=>?_
  have I2:=I1.kept (t':=s1.toks+1+1) λb o e=>Uk { cls:=Xz "range",data:=Data.fields #[Xf 0 s1.toks,Xf (n:Int) t,Xf 1 (s1.toks+1)] } e
  refine⟨.ref _,_,I2.laid (t':=tk) kp (Uo _) (show ba X.prog X.w _ h' _ (.lst ((Vn n).map λi:Nat=>V.int (i:Int))) from⟨?_,acc.toList,c',?_,by rw[e]⟩),rfl,q _ (I2.bD.fresh (Uo _))⟩
  . rw[Ui,WH];exact UO hn (by decide)
  . rw[List.range_eq_range'];refine yS n 0 acc.toList (by rw[VX];exact it.1) λj v e=>?_;obtain⟨t,rfl⟩:=it.2 j v (by rw[<- e,W5]);exact⟨t,by congr 1;omega⟩
theorem yz{K:Ud}{ρ :List Addr}{H:Hp}: ∀ l:List Nat,av K ρ H (l.map λi:Nat=>PV.int (0+(i:Int))) (l.map λi:Nat=>V.int (i:Int))
 | []=>by rw[UU,UU,av]
 | i::l=>by rw[Ul,Ul];exact aD.mpr ⟨_,_,rfl,by rw[rel,XU],yz l⟩
noncomputable def SR(mr:MA):ME:=λc e h=>(mr c e h).bind λvs h1=>match vs with
 | [.int j]=>if 0<=j/\j<=100000 then .ok (.ref h1.length) (h1++[.lst (aE 0 j.toNat)]) else .no
 | _=> .no
theorem AU(hL:Gl X "list")(hR:Gl X "range")(ha:JA X pg k [a] mr)(hs:U7 [a] X.env=[(false,eval a X.env)]:=by rfl):JE X pg k (.Call (.Name "list" p) [.Call (.Name "range" p2) [a] [] p3] [] pos) (SR mr):=⟨λA=>by
 obtain⟨_,q1,s1⟩:=ha.h A;refine⟨_,⟨Ad hL (A.blt _ (by decide +kernel)) hR (A.blt _ (by decide +kernel)) A.room.hd q1.h hs rfl⟩,fun ρ h H e σ Q v h' s r q P=>?_⟩;obtain⟨vs,h1,e1,q⟩:=bind_eq.mp q;refine s1 ρ h H e σ _ vs h1 s r e1 λus ρ1 H1 g1 z1 r1=>?_;split at q
 . rename_i j;split at q
   . rename_i hj;cases q;obtain⟨u,rfl,r2⟩:=aR r1;rw[rel] at r2;subst r2;obtain⟨n,rfl⟩:=Vw hj.1;refine⟨n,rfl,by omega,λl hl=>?_⟩;exact d7 z1 (yz (Vn n)) (P.gr g1) l hl
   . exact nomatch q
 . exact nomatch q⟩
end
section
variable{c:CF}{e:ao}{h:PH}{r:MA}
noncomputable def Tt(vs:List PV)(h1:PH):RV PV:=match vs with
 | [.int j]=>if 0<=j/\j<=100000 then .ok (.ref h1.length) (h1++[.lst (aE 0 j.toNat)]) else .no
 | _=> .no
theorem QQ:SR r c e h=(r c e h).bind Tt:=(rfl)
theorem K5{j:Int}(hj:0<=j/\j<=100000):Tt [.int j] h= .ok (.ref h.length) (h++[.lst (aE 0 j.toNat)]):=if_pos hj
end
end P3
end
section
open PySem PySem.W PyProof.Rows
namespace L2
open PySem PySem.Spec PyProof.Rows
open PySem.AutoSeq1 (wpAny_loadPart')
theorem Ht{M:Model}{A:U6}{E:Value->Uj->Prop}{s:Uj}{β :Type}(f:Nat-> β ->Sem (ForInStep β))(J:List Nat-> β ->Uj->Prop)(Q: β ->Uj->Prop)
  (step: ∀ i r b u,J (i::r) b u->wpAny M A (f i b) (λz u'=>match z with
   | .yield b'=>J r b' u'
   | .done b'=>Q b' u') E u) (stop: ∀ b u,J [] b u->Q b u) (rg:Std.Legacy.Range) (b: β) (h:J (abB rg.start rg.size rg.step) b s):wpAny M A (forIn rg b f) Q E s:=by
 rw[aan];exact wpAny_forIn_list f J Q step stop _ b h
theorem Bc(l:Addr)(aj:Array Value)(n:Nat)(di:Option Addr)(sl:Array (Option Value))(x:Value)(e:Value->Bool)(he: ∀ y,y∈aj->MeetsSeq.EqGives y x (e y))(j:Nat)(hj:j < aj.size)(h1:e aj[j]=true)(h0: ∀(m:Nat)(hm:m < aj.size),m < j->e aj[m]=false) :
  Meets (Xa.«tuple.index» ⟨[.ref l,x],[]⟩) (λ_ R s=>s.heap.get? l=some { cls:= .type "tuple",dict:=di,data:= .seq aj n,slots:=sl }/\R (.ok (.ret (.int (j:Int) s.toks))) { s with toks:=s.toks+1 }) :=
 .of_wp λprog w A R u hu=>by
  obtain⟨hp,gg,dd,tk,os⟩:=u;obtain⟨hl,hr⟩:=hu
  wp_walk using wpAny_loadPart' hl,Ht _ (λrest b u'=>b=(none,())/\u'=(⟨hp,gg,dd,tk,os⟩:Uj)/\ ∃ m,rest=abB m (aj.size - m)/\m<=j) _
  case step =>
   rintro i r b u' ⟨rfl,rfl,m,em,mj⟩
   have hm:m < aj.size:=by omega
   rw[show aj.size - m=(aj.size - (m+1))+1 by omega,abp] at em
   obtain⟨rfl,rfl⟩:=List.cons.inj em
   have ei:aj[i]?=some aj[i]:=Vj hm
   rw[ei]
   refine Ue (he aj[i] (Array.getElem_mem hm) prog w _ _ _ _ ?_)
   by_cases c:i=j
   . subst c;rw[h1]
     wp_walk
     exact⟨_,rfl,hr⟩
   . rw[h0 i hm (by omega)]
     wp_walk
     exact⟨rfl,rfl,i+1,rfl,by omega⟩
  case stop =>
   rintro b u' ⟨_,_,m,em,mj⟩
   have:=congrArg abv em
   rw[UL,List.length_range'] at this
   omega
  case h=>exact⟨rfl,rfl,0,by simp[abW],Vd _⟩
section
variable{X:Cx}
noncomputable def GI:V->List V->Hp->VK->Prop:=λx vs H Q=> ∃(l:Addr)(ss:List Str)(a:Str),x= .ref l/\vs=[.str a]/\H l=some (.lst (ss.map V.str))/\a∈ss/\Q (.int (ss.idxOf a:Nat)) H
theorem places{a:Str}{t:Tok}{aj:List Value}{ss:List Str}(sa:Yt aj ss)(ln:aj.length=ss.length)(ha:a∈ss) :
  ∃ hj:ss.idxOf a < aj.toArray.size,Yx a aj.toArray[ss.idxOf a]=true/\ ∀(m:Nat)(hm:m < aj.toArray.size),m < ss.idxOf a->Yx a aj.toArray[m]=false:=by
 have hj:=wA ha;refine⟨by rw[Uw,ln];exact hj,?_,λm hm hlt=>?_⟩
 . show Yx a (aj[ss.idxOf a]'(by rw[ln];exact hj))=true;rw[ly sa _ _ hj,aaX hj];exact beq_self_eq_true a
 . have hm':m < ss.length:=by rw[<- ln];simpa using hm
   show Yx a (aj[m]'(by rw[ln];exact hm'))=false;have nf:=ZS (p:=(· == a)) (xs:=ss) (i:=m) hlt
   rw[ly sa _ _ hm'];simpa using nf
theorem AB:Rj X "list.index" GI:=by
 intro pins s σ H x vs v us Q I rx rv h;obtain⟨l,ss,a,rfl,rfl,hH,ha,q⟩:=h;cases rx;obtain⟨u,rfl,t,rfl⟩:=rv.one;obtain⟨z,aj,n,r,hl,e⟩:=I.Au hH;have sa:=fQ r;have ln:aj.length=ss.length:=by rw[<- hl,Ui]
 obtain⟨hj,h1,h0⟩:=places (t:=t) sa ln ha;have z2:ss.length<=sizeLine:=by rw[<- ln,<- hl];exact z
 refine Wb F.slot_list_index ⟨_,e,rfl⟩ F.entry_list_index (F.args_list_index_2 _ _)
  (MeetsSeq.list_index l aj.toArray n (.str a t) (Yx a) (λy hy=>eq_isStrOf a t sa y (by simpa using hy)) (ss.idxOf a) hj (by have:ss.idxOf a < ss.length:=wA ha;have:sizeLine=16777216:=rfl;omega) h1 h0) ⟨e,?_⟩
 exact⟨.int (ss.idxOf a:Nat),H,I.tok _,⟨_,rfl⟩,q⟩
noncomputable def E3(K:Ud):V->List V->Hp->VK->Prop:=λx vs H Q=> ∃(l:Addr)(ss:List Str)(a:Str),x= .ref l/\vs=[.str a]/\fM K H l (ss.map V.str)/\a∈ss/\Q (.int (ss.idxOf a:Nat)) H
theorem rS:Rj X "tuple.index" (E3 X.K):=by
 intro pins s σ H x vs v us Q I rx rv h;obtain⟨l,ss,a,rfl,rfl,hH,ha,q⟩:=h;cases rx;obtain⟨u,rfl,t,rfl⟩:=rv.one;obtain⟨aj,r,⟨o,e,ec,n,ed⟩,z⟩:=I.tuple hH;have sa:=fQ r;have ln:aj.length=ss.length:=by rw[<- r.length,Ui]
 obtain⟨hj,h1,h0⟩:=places (t:=t) sa ln ha;obtain⟨oc,od,oa,os⟩:=o;cases ec;cases ed;refine Wb F.slot_tuple_index ⟨_,e,rfl⟩ F.entry_tuple_index (F.args_tuple_index_2 _ _)
  (Bc l aj.toArray n od os (.str a t) (Yx a) (λy hy=>eq_isStrOf a t sa y (by simpa using hy)) (ss.idxOf a) hj h1 h0) ⟨e,?_⟩
 exact⟨.int (ss.idxOf a:Nat),H,I.tok _,⟨_,rfl⟩,q⟩
noncomputable def T9(r:V->List V->Hp->VK->Prop)(to:TE)(t:TA):TE:=fun σ H Q=>to σ H λx H1=>(∃ p xs,x= .ref p/\H1 p=some (.tup xs))/\t σ H1 λxs H2=>r x xs H2 Q
variable{o e:Expr}{to:TE}{t:TA}{name:Str}{apos cpos:Pos}{id:String}{r:V->List V->Hp->VK->Prop}
theorem Pw(pa:aaQ "tuple")(slot:Slot "tuple" name id)(hty:typeOf (.builtin id)=pure (.type "method_descriptor"))(hm:Jg X id r)(ho:PE X o to)(ha:PA X [e] t)
  (hbase:WJ o name X.env (eval o X.env)=eval o X.env) (hline:(apos.endLine == cpos.line)=true) (hs:U7 [e] X.env=[(false,eval e X.env)]):PE X (.Call (.Attribute o name apos) [e] [] cpos) (T9 r to t):=by
 intro pins s σ H Q I h;refine ZJ hbase (by rw[hs];rfl) hline rfl (cL (ho pins s σ H _ I h) λv s1 ⟨x,H1,I1,r1,⟨p,xs,ex,hp⟩,q1⟩=>?_);subst ex;cases r1;obtain⟨_,aj,_,ob,g1,g2,n,g3,g4⟩:=I1.bD p _ hp;refine⟨"tuple",id,pa,slot,hty,⟨ob,g1,g2⟩,λa e=>by cases e;exact⟨ob,g1,g4⟩,?_⟩;have hA:=ha cpos pins s1 σ H1 _ I1 q1;rw[hs] at hA ⊢;refine XQ rfl (Yc ?_);exact cL hA λus s2 ⟨vs,H2,I2,r2,q2⟩=>hm pins s2 σ H2 (.ref p) vs (.ref p) us Q I2 rfl r2 q2
end
end L2
namespace P3
open PySem PySem.Spec PyProof.Rows L2
section
variable{X:Cx}{pg:Tb}{k:Nat}{d e:Expr}{md:ME}{mr:MA}{apos cpos:Pos}
noncomputable def iC:PV->List PV->PH->RV PV:=λx vs h=>match x,vs with
 | .ref n,[.str a]=>(match h[n]? with
  | some (.lst xs)=>(match fe xs with
   | some ss=>if a∈ss then .ok (.int (ss.idxOf a:Nat)) h else .no
   | none=> .no)
  | _=> .no)
 | _,_=> .no
theorem C0:dm X pg k-> ∃ r,Jg X "list.index" r/\RD X.K "list" r iC bY:=λA=>⟨_,AB,fun ρ h H x x' s r e=>pd s r e,fun ρ h H x x' xs us Q v h' s rx rs q P=>by
 unfold iC at q;split at q
 . rename_i n a;split at q
   . rename_i ys en;split at q
     . rename_i ss es;split at q
       . rename_i ha;cases q;obtain⟨b,vs,rfl,ea,e1,e2⟩:=s.lst en rx;obtain⟨u,rfl,r⟩:=aR rs;rw[rel] at r;subst r;rw[fc es,bX] at e2;subst e2;exact⟨b,ss,a,rfl,rfl,e1,ha,P _ ρ H (.refl _ _) s (by rw[rel])⟩
       . exact nomatch q
     . exact nomatch q
   . exact nomatch q
 . exact nomatch q⟩
noncomputable def AF(x:PV)(vs:List PV)(h:PH):RV PV:=match x,vs with
 | .tup xs,[.str a]=>(match fe xs with
  | some ss=>if a∈ss then .ok (.int (ss.idxOf a:Nat)) h else .no
  | none=> .no)
 | _,_=> .no
noncomputable def qA(x:PV)(vs:List PV)(h:PH):RV PV:=match x,vs with
 | .ktup xs,[.str a]=>(match fe xs with
  | some ss=>if a∈ss then .ok (.int (ss.idxOf a:Nat)) h else .no
  | none=> .no)
 | _,_=> .no
noncomputable def E9(md:ME)(mr:MA):ME:=λc e h=>(md c e h).bind λx h1=>(mr c e h1).bind λvs h2=>AF x vs h2
theorem zZ(ho:JE X pg k d md)(ha:JA X pg k [e] mr)(hbase:WJ d "index" X.env (eval d X.env)=eval d X.env:=by rfl)(hline:(apos.endLine == cpos.line)=true:=by rfl)(hs:noStar e=true:=by rfl) :
  JE X pg k (.Call (.Attribute d "index" apos) [e] [] cpos) (E9 md mr):=⟨λA=>by
 obtain⟨_,q0,s0⟩:=ho.h A;obtain⟨_,q1,s1⟩:=ha.h A;refine⟨_,⟨Pw Zi Zj Zk rS q0.h q1.h hbase hline (cy hs)⟩,fun ρ h H e σ Q v h' z r q P=>?_⟩;obtain⟨x,h1,e1,q⟩:=bind_eq.mp q;obtain⟨xs,h2,e2,q⟩:=bind_eq.mp q;unfold AF at q;split at q
 . rename_i ys a _;split at q
   . rename_i ss es;split at q
     . rename_i hm;cases q;refine s0 ρ h H e σ _ _ _ z r e1 λx' ρ1 H1 g1 z1 r1=>?_;have r1':=r1;rw[rel] at r1';obtain⟨p,vs,rfl,hp,_⟩:=r1';refine⟨⟨p,vs,rfl,hp⟩,?_⟩;refine s1 ρ1 h1 H1 e σ _ _ _ z1 (r.gr g1) e2 λus ρ2 H2 g2 z2 r2=>?_;have r3:=rel.gr g2 _ _ r1;rw[rel] at r3;obtain⟨p',vs',ep,hp',rv⟩:=r3;cases ep;obtain⟨u,rfl,ru⟩:=aR r2;rw[rel] at ru;subst ru;rw[fc es,bX] at rv;subst rv;exact⟨p,ss,a,rfl,rfl,.of hp',hm,P.gr (g1.trans g2) _ ρ2 H2 (.refl _ _) z2 (by rw[rel])⟩
     . exact nomatch q
   . exact nomatch q
 . exact nomatch q⟩
noncomputable def Sy(v:PV)(mr:MA):ME:=λc e h=>(mr c e h).bind λvs h2=>qA v vs h2
theorem zY{x:Str}{v:PV}{p:Pos}(hc:pg.con x=some v)(hg:Gl X x)(ha:JA X pg k [e] mr)(hd:(x == ("__debug__" :Str))=false:=by decide)(hbase:WJ (.Name x p) "index" X.env (eval (.Name x p) X.env)=eval (.Name x p) X.env:=by rfl)(hline:(apos.endLine == cpos.line)=true:=by rfl)(hs:noStar e=true:=by rfl) :
  JE X pg k (.Call (.Attribute (.Name x p) "index" apos) [e] [] cpos) (Sy v mr):=⟨λA=>by
 obtain⟨u,v',e1,e2,cn,e3⟩:=A.con x v hc;obtain⟨_,q1,s1⟩:=ha.h A;refine⟨_,Ir Zi Zj Zk rS (zD hg e1 e2 hd) q1 hbase hline hs,fun ρ h H e σ Q w h' z r q P=>?_⟩;obtain⟨xs,h2,e2',q⟩:=bind_eq.mp q;unfold qA at q;split at q
 . rename_i ys a _;split at q
   . rename_i ss es;split at q
     . rename_i hm;cases q;have r0:=e3 ρ H;rw[rel] at r0;obtain⟨pa,vs,rfl,_,_⟩:=r0;obtain⟨o,o1,o2,o3⟩:=cn pa rfl;refine⟨.inr (.inl ⟨rfl,o,o1,o2,o3⟩),?_⟩;refine s1 ρ h H e σ _ _ _ z r e2' λus ρ2 H2 g2 z2 r2=>?_;obtain⟨p',vs',ep,sq,rv⟩:=rel.seq (x:= .ktup ys) rfl (e3 ρ2 H2);cases ep;obtain⟨u',rfl,ru⟩:=aR r2;rw[rel] at ru;subst ru;rw[fc es,bX] at rv;subst rv;exact⟨_,ss,a,rfl,rfl,sq,hm,P.gr g2 _ ρ2 H2 (.refl _ _) z2 (by rw[rel])⟩
     . exact nomatch q
   . exact nomatch q
 . exact nomatch q⟩
end
section
variable{c:CF}{e:ao}{h:PH}{d:ME}{r:MA}{x v:PV}{ss:List Str}{a:Str}{n:Nat}
theorem yW:Sy v r c e h=(r c e h).bind (qA v):=(rfl)
theorem NZ(ha:a∈ss):qA (.ktup (ss.map PV.str)) [.str a] h= .ok (.int (ss.idxOf a:Nat)) h:=by
 unfold qA;simp only[cF,if_pos ha]
noncomputable def Pq(r:MA)(c:CF)(e:ao)(x:PV)(h1:PH):RV PV:=(r c e h1).bind (AF x)
theorem lT:E9 d r c e h=(d c e h).bind (Pq r c e):=(rfl)
theorem iP:Pq r c e x h=(r c e h).bind (AF x):=(rfl)
theorem iu(ha:a∈ss):AF (.tup (ss.map PV.str)) [.str a] h= .ok (.int (ss.idxOf a:Nat)) h:=by
 unfold AF;simp only[cF,if_pos ha]
theorem tR(e1:h[n]?=some (.lst (ss.map PV.str)))(ha:a∈ss):iC (.ref n) [.str a] h= .ok (.int (ss.idxOf a:Nat)) h:=by
 unfold iC;simp only[e1,cF,if_pos ha]
end
section
variable{X:Cx}{pg:Tb}{k:Nat}
noncomputable def Kh:List V->Hp->VK->Prop:=λxs H Q=>(∃ b,xs=[.bl b]/\Q (.str (if b=true then UC "True" else UC "False")) H)\/(xs=[.non]/\Q (.str (UC "None")) H)
theorem AX:aV X (.builtin "repr") Kh:=by
 intro pins s σ H xs us Q I r h;rcases h with⟨b,rfl,q⟩ | ⟨rfl,q⟩
 . obtain⟨u,rfl,ru⟩:=vals1 r;cases(show u=YC b from ru);exact PySem.P.repr_of_bool ⟨.str _,H,I.tok _,⟨_,rfl⟩,q⟩
 . obtain⟨u,rfl,ru⟩:=vals1 r;cases(show u=Wl from ru);exact PySem.P.repr_of_none ⟨.str _,H,I.tok _,⟨_,rfl⟩,q⟩
noncomputable def Av(d:Ws):Prop:=d.showable=true/\d.hasDict=false/\d.depth<=64/\d.shown.length<=sizeLine
instance (d:Ws):Decidable (Av d):=by unfold Av;infer_instance
noncomputable def fw:List PV->PH->RV PV:=λxs h=>match xs with
 | [.bl b]=> .ok (.str (if b=true then UC "True" else UC "False")) h
 | [.non]=> .ok (.str (UC "None")) h
 | [.tup ys]=>(match dat 6 h (.tup ys) with
  | some d=>if Av d then .ok (.str d.shown) h else .no
  | none=> .no)
 | [.ref n]=>(match dat 6 h (.ref n) with
  | some d=>if Av d then .ok (.str d.shown) h else .no
  | none=> .no)
 | _=> .no
theorem FX:dm X pg k-> ∃ r,aV X (.builtin "repr") r/\Bw X.K r fw:=λA=>⟨_,(Er A.room.gd (by have:=A.room.un;omega)).or AX,fun ρ h H xs us Q v h' s r q P=>by
 unfold fw at q;split at q
 . rename_i b;cases q;obtain⟨u,rfl,r1⟩:=aR r;rw[rel] at r1;subst r1;exact .inr (.inl ⟨b,rfl,P _ ρ H (.refl _ _) s (by rw[rel])⟩)
 . cases q;obtain⟨u,rfl,r1⟩:=aR r;rw[rel] at r1;subst r1;exact .inr (.inr ⟨rfl,P _ ρ H (.refl _ _) s (by rw[rel])⟩)
 . rename_i ys;split at q
   . rename_i d e;split at q
     . rename_i c;cases q;obtain⟨u,rfl,r1⟩:=aR r;have dv:=dat.v s 6 _ _ _ e r1;have r2:=r1;rw[rel] at r2;obtain⟨a,vs,rfl,_,_⟩:=r2;exact .inl ⟨a,d,rfl,dv,c.1,c.2.1,c.2.2.1,c.2.2.2,P _ ρ H (.refl _ _) s (by rw[rel])⟩
     . exact nomatch q
   . exact nomatch q
 . rename_i n;split at q
   . rename_i d e;split at q
     . rename_i c;cases q;obtain⟨u,rfl,r1⟩:=aR r;have dv:=dat.v s 6 _ _ _ e r1;have r2:=r1;rw[rel] at r2;obtain⟨a,_,rfl⟩:=r2;exact .inl ⟨a,d,rfl,dv,c.1,c.2.1,c.2.2.1,c.2.2.2,P _ ρ H (.refl _ _) s (by rw[rel])⟩
     . exact nomatch q
   . exact nomatch q
 . exact nomatch q⟩
end
section
variable{P:UN}{w:World}{K:Ud}{mg:Str->Option Value}{pg:Tb}
theorem bj.on{f:String}{ps:List Str}{n:Nat}{b:MS}{st:Stmt}{N:List Str}(a:At K mg (UC f) st)(S:d9 N ps (ax st))(hl:N.length=ps.length+n)
  (hb: ∀(kV doc pm:Value)(an:Option Addr)(cdv ct:Value)(us:List Value),us.length=ps.length->WV (Vu (UC f) (UC f) (cJ st) (bq st) (ax st) .none kV doc pm an cdv ct) ⟨us,[]⟩=pure (ps.zip us))
  (h:N.Nodup-> ∀(base:Heap)(fa:Addr)(cdv:Value)(A:U6)(outer:List Env)(s:Uj)(H:Hp)(E:XK)(k:Nat),yF (j5 ue P w K mg base N (UC f) (ax st) fa cdv A outer s H E).qy pg k (bq st) b):bj P w K mg pg f ⟨ps,n,b⟩ st N :=
 ⟨a,S,hl,hb,h S.nd⟩
end
section
variable{X:Cx}{pg:Tb}{k:Nat}{e iter:Expr}{ma:ME}{mt:MT}{mI:MI}{scope:Scope}{ifs:List Expr}{pos vp wp up tp:Pos}{u v w:Str}{j l m n:Nat}
theorem Js(hi:JI X pg k (.Tuple [.Name v vp,.Name w wp,.Name u up] j tp) iter mI)
  (hb: ∀ cl C s₀ H₀ ex pn,(dm X pg k->QG (fk X [v,w,u] scope cl C s₀ H₀ ex pn) (.Tuple [.Name v vp,.Name w wp,.Name u up] j tp) (wb X.K 3 (jB (eA m) (jB (eA n) (jB (eA l) yt)))))/\JF (fk X [v,w,u] scope cl C s₀ H₀ ex pn) pg k ifs mt/\JE (fk X [v,w,u] scope cl C s₀ H₀ ex pn) pg k e ma)
  (hm:Yv X.N.length m=true:=by rfl) (hn:Yv X.N.length n=true:=by rfl) (hl:Yv X.N.length l=true:=by rfl) (hkind:scope.kind= .function:=by rfl) (hlc:iO scope.names X.env.scope.names X.N [v,w,u]=true:=by rfl) (hs: ∀ x,U9 iter X.env x=pure x:=by intro _;rfl) :
  JE X pg k (.ListComp e [⟨.Tuple [.Name v vp,.Name w wp,.Name u up] j tp,iter,ifs,0⟩] scope pos) (jT 3 mI (gT 3 (aG (gN m) (aG (gN n) (aG (gN l) eF)))) mt ma):=pV [v,w,u] hkind hlc hi hb (w9 (gz (GC.of hm) (gz (GC.of hn) (gz (GC.of hl) um)))) hs
end
noncomputable def eI(i:Int):ME:=eC (.int i)
noncomputable def eS(x:Str):ME:=eC (.str x)
noncomputable def eX(i:Nat)(j:Int):ME:=ai aw (aa i) (eI j)
noncomputable def mQ(a b:ME):MT:=aM (ai oz a b)
noncomputable def a1(a:ME):MA:=ab a ah
noncomputable def a2(a b:ME):MA:=ab a (a1 b)
noncomputable def a3(a b d:ME):MA:=ab a (a2 b d)
section
variable{a b d:ME}{c:CF}{e:ao}{h:PH}{i:Nat}{j:Int}{s:Str}{x y z v:PV}
theorem Jf:eI j c e h= .ok (.int j) h:=rfl
theorem Jd:eS s c e h= .ok (.str s) h:=rfl
noncomputable def xk(o:Option (Option PV))(j:Int)(h:PH):RV PV:=(Nz o h).bind λx h1=>aw x (.int j) h1
theorem Q6:eX i j c e h=xk (e[i]?) j h:=rfl
theorem O7:xk (some (some v)) j h=aw v (.int j) h:=rfl
noncomputable def RJ(x y:PV)(h:PH):RV Bool:=(oz x y h).bind uB
noncomputable def Tv(b:ME)(c:CF)(e:ao)(x:PV)(h:PH):RV Bool:=(b c e h).bind (RJ x)
theorem PJ:mQ a b c e h=(a c e h).bind (Tv b c e):=by
 show((a c e h).bind _).bind uB=_;cases a c e h with
 | ok x h1 =>
  show((b c e h1).bind _).bind uB=(b c e h1).bind (RJ x)
  cases b c e h1<;>rfl
 | _=>rfl
theorem Lu:Tv b c e x h=(b c e h).bind (RJ x):=rfl
theorem Nw:RJ x y h=(oz x y h).bind uB:=rfl
noncomputable def TL(x:PV)(h:PH):RV (List PV):= .ok [x] h
theorem Ii:a1 a c e h=(a c e h).bind TL:=rfl
theorem D9:TL x h= .ok [x] h:=rfl
noncomputable def RQ(x y:PV)(h:PH):RV (List PV):= .ok [x,y] h
noncomputable def To(b:ME)(c:CF)(e:ao)(x:PV)(h:PH):RV (List PV):=(b c e h).bind (RQ x)
theorem Iu:a2 a b c e h=(a c e h).bind (To b c e):=by
 show(a c e h).bind _=_;cases a c e h with
 | ok x h1 =>
  show((b c e h1).bind _).bind _=(b c e h1).bind (RQ x)
  cases b c e h1<;>rfl
 | _=>rfl
theorem Lm:To b c e x h=(b c e h).bind (RQ x):=rfl
theorem Ks:RQ x y h= .ok [x,y] h:=rfl
noncomputable def RL(x y z:PV)(h:PH):RV (List PV):= .ok [x,y,z] h
noncomputable def RN(d:ME)(c:CF)(e:ao)(x y:PV)(h:PH):RV (List PV):=(d c e h).bind (RL x y)
noncomputable def Th(b d:ME)(c:CF)(e:ao)(x:PV)(h:PH):RV (List PV):=(b c e h).bind (RN d c e x)
theorem Jb:a3 a b d c e h=(a c e h).bind (Th b d c e):=by
 show(a c e h).bind (KP (a2 b d) c e)=_;cases a c e h with
 | ok x h1 =>
  show(a2 b d c e h1).bind _=(b c e h1).bind (RN d c e x)
  rw[Iu]
  cases b c e h1 with
  | ok y h2 =>
   show((d c e h2).bind _).bind _=(d c e h2).bind (RL x y)
   cases d c e h2<;>rfl
  | _=>rfl
 | _=>rfl
theorem B7:Th b d c e x h=(b c e h).bind (RN d c e x):=rfl
theorem DJ:RN d c e x y h=(d c e h).bind (RL x y):=rfl
theorem Ct:RL x y z h= .ok [x,y,z] h:=rfl
end
end P3
end
section
open PySem PySem.W PyProof.Rows
set_option maxHeartbeats 5000000
namespace K21
open PySem L2 P3 PyProof.Rows
noncomputable def top(i:Nat):Stmt:=PySem.Challenge.pw_leastrecord_k21_steps.main.body.getD i (.Pass ⟨0,0,0,0⟩)
noncomputable def fg:List (Key × PV):=[(.inr "let",(.ktup [(.str "pocket"),(.str "sum")])),(.inr "leap",(.ktup [(.str "target"),(.str "sum")])),(.inr "get",(.ktup [(.str "pocket"),(.str "box")])),(.inr "put",(.ktup [(.str "box"),(.str "sum")])),(.inr "take",(.ktup [(.str "lock")])),(.inr "free",(.ktup [(.str "lock")])),(.inr "send",(.ktup [(.str "lane"),(.str "sum")])),(.inr "fetch",(.ktup [(.str "pocket"),(.str "lane")])),(.inr "say",(.ktup [(.str "door"),(.str "sum")])),(.inr "clock",(.ktup [(.str "pocket")])),(.inr "lot",(.ktup [(.str "pocket"),(.str "chances")])),(.inr "hear",(.ktup [(.str "pocket"),(.str "door")]))]
noncomputable def dH:List (Key × PV):=[(.inr "box",(.int 2)),(.inr "lock",(.int 3)),(.inr "lane",(.int 4)),(.inr "door",(.int 5))]
noncomputable def fT:List (Key × PV):=[(.inr "get",(.str "box")),(.inr "put",(.str "box")),(.inr "take",(.str "lock")),(.inr "free",(.str "lock")),(.inr "send",(.str "lane")),(.inr "fetch",(.str "lane")),(.inr "say",(.str "door"))]
noncomputable def pb:MS :=
  (ay (B6 (eB Am (ab (aa 0) (ab (eC (.ty "int")) ah))) (Gz (eB Am (ab (aa 0) (ab (eC (.ty "bool")) ah))))))
noncomputable def iN:Df:=⟨["thing"],0,pb⟩
noncomputable def lP:MS :=
  (ay (B6 (ag "is_whole" (a1 (aa 0))) (sO RH RH (aa 1) (aa 0) (aa 2))))
noncomputable def fD:Df:=⟨["thing", "least", "most"],0,lP⟩
noncomputable def pB:MS :=
  (ay (ag "is_between" (a3 (aa 0) (eI 0) (eI 999))))
noncomputable def iQ:Df:=⟨["thing"],0,pB⟩
noncomputable def kY:MS :=
  (ae (ak (eX 0 0) (gN 2))
  (ae (b6 (mQ (aa 2) (eS "num")) (ay (eX 0 1)) cP)
  (ae (b6 (mQ (aa 2) (eS "of")) (ay (yR (eB ia (a1 (aa 1))) (eX 0 1) (eI 0))) cP)
  (ae (ak (ag "worth" (a2 (eX 0 1) (aa 1))) (gN 3))
  (ae (b6 (mQ (aa 2) (eS "not")) (ay (uz (mQ (aa 3) (eI 0)) (eI 1) (eI 0))) cP)
  (ay (ag "joined_worth" (ab (aa 2) (ab (aa 3) (ab (ag "worth" (a2 (eX 0 2) (aa 1))) ah))))))))))
noncomputable def iD:Df:=⟨["tree", "pockets"],2,kY⟩
noncomputable def i8:MS :=
  (ae (b6 (mQ (aa 0) (eS "add")) (ay (ai fh (ai bf (aa 1) (aa 2)) (eI 1000))) cP)
  (ae (b6 (mQ (aa 0) (eS "sub")) (ay (ai fh (ai qZ (aa 1) (aa 2)) (eI 1000))) cP)
  (ae (b6 (mQ (aa 0) (eS "mul")) (ay (ai fh (ai dA (aa 1) (aa 2)) (eI 1000))) cP)
  (ae (b6 (mQ (aa 0) (eS "less")) (ay (uz (aM (ai D6 (aa 1) (aa 2))) (eI 1) (eI 0))) cP)
  (ay (uz (aM (ai oz (aa 1) (aa 2))) (eI 1) (eI 0)))))))
noncomputable def dY:Df:=⟨["word", "one", "other"],0,i8⟩
noncomputable def gv:MS :=
  (ae (ak (ai aw (aa 0) (Sy (.ktup [(.str "box"),(.str "lock"),(.str "lane"),(.str "door"),(.str "hand")]) (a1 (aa 1)))) (gN 2))
  (ae (b6 (Iv (mQ (aa 1) (eS "box")) (mQ (aa 1) (eS "hand"))) (ay (jT 1 (j7 (aa 2)) (gN 3) aP (eX 3 0))) cP)
  (ay (eB gU (a1 (aa 2))))))
noncomputable def dF:Df:=⟨["program", "sort"],1,gv⟩
noncomputable def nA:MS :=
  (ae (ak (ag "names_of" (a2 (aa 0) (aa 1))) (gN 3))
  (ay (uz (aM (ai iW (aa 2) (aa 3))) (eM iC bY (aa 3) (a1 (aa 2))) (eC .non))))
noncomputable def gL:Df:=⟨["program", "sort", "name"],1,nA⟩
noncomputable def rZ:MS :=
  (ay (ai aw (ai aw (eX 0 4) (aa 1)) (eI 1)))
noncomputable def jR:Df:=⟨["program", "hand"],0,rZ⟩
noncomputable def lB:MS :=
  (ay (ag "rested" (ab (aa 0) (ab (aa 1) (ab (au (a3 (eI 0) (au ah) (au ah))) ah)))))
noncomputable def fG:Df:=⟨["program", "hand"],0,lB⟩
noncomputable def vO:MS :=
  (ae (ak (ag "rows_of" (a2 (aa 0) (aa 1))) (gN 3))
  (ae (ak (aa 2) (gN 4))
  (ae (jv (de (a1 (eI 200))) (gN 5) (ae (b6 (aM (ag "is_rested" (a2 (aa 3) (aa 4)))) (ay (aa 4)) cP)
  (ak (ag "behind_own_row" (ab (ai aw (aa 3) (eX 4 0)) (a1 (aa 4)))) (gN 4))))
  (ae (b6 (aM (ag "is_rested" (a2 (aa 3) (aa 4)))) (ay (aa 4)) cP)
  (ay (au (ab (eB cD (a1 (aa 3))) (a2 (eX 4 1) (eX 4 2)))))))))
noncomputable def lS:Df:=⟨["program", "hand", "seat"],3,vO⟩
noncomputable def jr:MS :=
  (ay (PL (ai oz (eX 1 0) (eB cD (a1 (aa 0)))) (Gz (ag "is_own_row" (ab (ai aw (aa 0) (eX 1 0)) (a1 (eX 1 2)))))))
noncomputable def eW:Df:=⟨["rows", "seat"],0,jr⟩
noncomputable def kX:MS :=
  (ae (b6 (mQ (eX 0 0) (eS "take")) (ay (ai iW (eX 0 1) (aa 1))) cP)
  (ae (b6 (mQ (eX 0 0) (eS "free")) (ay (ai ko (eX 0 1) (aa 1))) cP)
  (ay (PL (ai oz (eX 0 0) (eS "let")) (ai oz (eX 0 0) (eS "leap"))))))
noncomputable def fC:Df:=⟨["row", "held"],0,kX⟩
noncomputable def c8:MS :=
  (ae (ak (ai bf (eX 1 0) (eI 1)) (gN 2))
  (ae (b6 (mQ (eX 0 0) (eS "let")) (ay (au (ab (aa 2) (ab (ag "laid" (ab (eX 1 1) (ab (eX 0 1) (ab (ag "worth" (a2 (eX 0 2) (eX 1 1))) ah)))) (a1 (eX 1 2)))))) cP)
  (ae (b6 (s9 (mQ (eX 0 0) (eS "leap")) (aM (ai iV (ag "worth" (a2 (eX 0 2) (eX 1 1))) (eI 0)))) (ay (au (a3 (eX 0 1) (eX 1 1) (eX 1 2)))) cP)
  (ay (au (a3 (aa 2) (eX 1 1) (eX 1 2)))))))
noncomputable def bQ:Df:=⟨["row", "seat"],1,c8⟩
noncomputable def xI:MS :=
  (ae (ak (jT 1 (j7 (aa 0)) (gN 4) (aM (ai iV (eX 4 0) (aa 1))) (aa 4)) (gN 3))
  (ae (b6 (aM (ai iV (aa 2) (eI 0))) (cX (eM bu bY (aa 3) (ab (au (a2 (aa 1) (aa 2))) ah))) cP)
  (ay (eB aN (ab (eB bI (a1 (aa 3))) ah)))))
noncomputable def pC:Df:=⟨["pockets", "name", "value"],1,xI⟩
noncomputable def kl:MS :=
  (ae (ak (ag "rows_of" (a2 (aa 0) (aa 1))) (gN 3))
  (ae (b6 (aM (ai oz (eX 2 0) (eB cD (a1 (aa 3))))) (ay (eC .non)) cP)
  (ae (ak (ai aw (aa 3) (eX 2 0)) (gN 4))
  (ae (ak (eS "") (gN 5))
  (ae (ak (eC .non) (gN 6))
  (ae (jv (Kc (rW fg (eX 4 0)) (AQ (aa 4) (gp (eI 1)) jf)) (gT 2 (aG (gN 7) (aG (gN 8) eF))) (b6 (mQ (aa 7) (eS "sum")) (ak (ag "worth" (a2 (aa 8) (eX 2 1))) (gN 6)) (b6 (mQ (aa 7) (eS "chances")) (ak (aa 8) (gN 6)) (b6 (aM (ai iV (aa 7) (eS "pocket"))) (ak (aa 8) (gN 5)) cP))))
  (ay (au (a3 (eX 4 0) (aa 5) (aa 6))))))))))
noncomputable def fS:Df:=⟨["program", "hand", "seat"],6,kl⟩
noncomputable def dB:MS :=
  (ae (ak (ai aw (ag "rows_of" (a2 (aa 0) (aa 1))) (eX 2 0)) (gN 4))
  (ae (ak (eX 2 1) (gN 5))
  (ae (ak (eX 2 2) (gN 6))
  (ae (b6 (aM (ai iW (eX 4 0) (eC (.ktup [(.str "get"),(.str "fetch"),(.str "clock"),(.str "lot"),(.str "hear")])))) (ak (ag "laid" (a3 (aa 5) (eX 4 1) (aa 3))) (gN 5)) (b6 (mQ (eX 4 0) (eS "take")) (ak (eB aN (ab (eB bI (ab (ai bf (aa 6) (au (a1 (eX 4 1)))) ah)) ah)) (gN 6)) (b6 (mQ (eX 4 0) (eS "free")) (ak (eB aN (ab (jT 1 (j7 (aa 6)) (gN 7) (aM (ai iV (aa 7) (eX 4 1))) (aa 7)) ah)) (gN 6)) cP)))
  (ay (ag "rested" (ab (aa 0) (ab (aa 1) (ab (au (ab (ai bf (eX 2 0) (eI 1)) (a2 (aa 5) (aa 6)))) ah)))))))))
noncomputable def ck:Df:=⟨["program", "hand", "seat", "value"],3,dB⟩
noncomputable def ku:MS :=
  (ay (B6 (ag "is_value" (a1 (aa 1))) (PL (ai iV (eX 0 0) (eS "lot")) (ai D6 (aa 1) (eX 0 2)))))
noncomputable def fY:Df:=⟨["touch", "value"],0,ku⟩
noncomputable def kc:MS :=
  (ae (ak (ag "hands_of" (a1 (aa 0))) (gN 1))
  (ay (au (ab (eB aN (ab (jT 1 (j7 (aa 1)) (gN 2) aP (eI 0)) ah)) (ab (eB aN (ab (jT 1 (j7 (aa 1)) (gN 2) aP (ag "first_seat" (a2 (aa 0) (aa 2)))) ah)) (ab (eB aN (ab (jT 1 (j7 (eX 0 0)) (gN 2) aP (au (a2 (eX 2 1) (eC .non)))) ah)) (ab (eB aN (ab (jT 1 (j7 (eX 0 1)) (gN 2) aP (au (a2 (eC .non) (eC .non)))) ah)) (ab (eB aN (ab (jT 1 (j7 (eX 0 2)) (gN 2) aP (au (a3 (eI 0) (eI 0) (au ah)))) ah)) (ab (eB aN (ab (jT 1 (j7 (eX 0 3)) (gN 2) aP (eI 0)) ah)) ah)))))))))
noncomputable def eQ:Df:=⟨["program"],1,kc⟩
noncomputable def pX:MS :=
  (ay (SR (ab (eB cD (a1 (eX 0 4))) ah)))
noncomputable def iE:Df:=⟨["program"],0,pX⟩
noncomputable def o7:MS :=
  (ay (ai aw (ai aw (aa 1) (rW dH (aa 2))) (ag "number_of" (a3 (aa 0) (aa 2) (aa 3)))))
noncomputable def iK:Df:=⟨["program", "stand", "sort", "name"],0,o7⟩
noncomputable def eN:MS :=
  (ae (ak (ag "touch_of" (ab (aa 0) (ab (aa 2) (ab (ai aw (eX 1 1) (aa 2)) ah)))) (gN 3))
  (ae (b6 (aM (Bp (hI false) (aa 3))) (ay (eS "end")) cP)
  (ae (b6 (mQ (eX 3 0) (eS "take")) (ae (ak (ai aw (ag "state_of" (ab (aa 0) (a3 (aa 1) (eS "lock") (eX 3 1)))) (eI 0)) (gN 4))
  (ay (uz (aM (Bp (hI false) (aa 4))) (eC .non) (au (a3 (eS "lock") (eX 3 1) (aa 4)))))) cP)
  (ae (b6 (s9 (mQ (eX 3 0) (eS "fetch")) (aM (ai oz (ai aw (ag "state_of" (ab (aa 0) (a3 (aa 1) (eS "lane") (eX 3 1)))) (eI 2)) (au ah)))) (ay (au (a2 (eS "letter") (eX 3 1)))) cP)
  (ay (eC .non))))))
noncomputable def c9:Df:=⟨["program", "stand", "hand"],2,eN⟩
noncomputable def wJ:MS :=
  (ae (ak (ag "due_touch" (ab (aa 0) (a3 (aa 1) (aa 2) (aa 3)))) (gN 4))
  (ae (ak (eX 4 0) (gN 5))
  (ae (ak (eX 4 1) (gN 6))
  (ae (b6 (aM (ai iW (aa 5) (eC (.ktup [(.str "clock"),(.str "lot"),(.str "hear")])))) (ay (au (ab (ag "with_hand_on" (ab (aa 0) (a3 (aa 1) (aa 2) (aa 3)))) (ab (au (ab (aa 5) (a3 (aa 6) (aa 3) (eC .non)))) ah)))) cP)
  (ae (ak (rW fT (aa 5)) (gN 7))
  (ae (ak (ag "meeting" (ab (aa 4) (ab (au (ab (aa 2) (ab (ai aw (eX 1 0) (aa 2)) ah))) (ab (ag "state_of" (ab (aa 0) (a3 (aa 1) (aa 7) (aa 6)))) ah)))) (gN 8))
  (ae (ak (ag "with_state" (ab (aa 0) (ab (aa 1) (a3 (aa 7) (aa 6) (eX 8 2))))) (gN 9))
  (ay (au (ab (ag "with_hand_on" (ab (aa 0) (a3 (aa 9) (aa 2) (eX 8 0)))) (ab (au (ab (aa 5) (a3 (aa 6) (eX 8 0) (eX 8 1)))) ah)))))))))))
noncomputable def qf:Df:=⟨["program", "stand", "hand", "gift"],6,wJ⟩
noncomputable def nR:MS :=
  (ae (b6 (AA (aM (ag "is_between" (ab (aa 2) (ab (eI 0) (ab (ai qZ (eB cD (a1 (eX 0 4))) (eI 1)) ah)))))) qj cP)
  (ae (ak (ag "wait_of" (a3 (aa 0) (aa 1) (aa 2))) (gN 4))
  (ae (b6 (mQ (aa 4) (eS "end")) qj cP)
  (ae (b6 (aM (Bp (hI true) (aa 4))) qj cP)
  (ae (ak (ag "touch_of" (ab (aa 0) (ab (aa 2) (ab (ai aw (eX 1 1) (aa 2)) ah)))) (gN 5))
  (ae (b6 (AA (aM (ag "takes_gift" (a2 (aa 5) (aa 3))))) qj cP)
  (ay (aa 5))))))))
noncomputable def gK:Df:=⟨["program", "stand", "hand", "gift"],2,nR⟩
noncomputable def iw:MS :=
  (ay (uz (aM (ai iW (eX 0 0) (eC (.ktup [(.str "clock"),(.str "lot"),(.str "hear")])))) (ag "may_come" (a2 (aa 0) (aa 1))) (Bp (hI false) (aa 1))))
noncomputable def d8:Df:=⟨["touch", "gift"],0,iw⟩
noncomputable def dM:MS :=
  (ae (ak (eX 0 0) (gN 3))
  (ae (ak (eX 0 2) (gN 4))
  (ae (b6 (mQ (aa 3) (eS "get")) (ay (au (a3 (eX 2 0) (eX 2 1) (aa 2)))) cP)
  (ae (b6 (mQ (aa 3) (eS "put")) (ay (au (ab (aa 4) (ab (eX 2 1) (ab (au (a2 (aa 4) (aa 1))) ah))))) cP)
  (ae (b6 (mQ (aa 3) (eS "take")) (ay (au (ab (eC .non) (ab (eX 2 1) (ab (au (a2 (eX 1 0) (eX 2 1))) ah))))) cP)
  (ae (b6 (mQ (aa 3) (eS "free")) (ay (au (ab (eC .non) (ab (eC .non) (ab (au (a2 (eC .non) (aa 1))) ah))))) cP)
  (ae (b6 (mQ (aa 3) (eS "send")) (ay (au (ab (aa 4) (ab (eX 2 0) (ab (au (ab (ai bf (eX 2 0) (eI 1)) (ab (eX 2 1) (ab (ai bf (eX 2 2) (au (a1 (aa 4)))) ah)))) ah))))) cP)
  (ae (b6 (mQ (aa 3) (eS "fetch")) (ay (au (ab (ai aw (eX 2 2) (eI 0)) (ab (eX 2 1) (ab (au (ab (eX 2 0) (ab (ai bf (eX 2 1) (eI 1)) (ab (AQ (eX 2 2) (gp (eI 1)) jf) ah)))) ah))))) cP)
  (ay (au (ab (aa 4) (ab (aa 2) (ab (ai bf (aa 2) (eI 1)) ah)))))))))))))
noncomputable def cG:Df:=⟨["touch", "event", "state"],2,dM⟩
noncomputable def jE:MS :=
  (ae (ak (ag "seat_behind" (ab (aa 0) (ab (aa 2) (ab (ai aw (eX 1 1) (aa 2)) (a1 (aa 3)))))) (gN 4))
  (ae (ak (ag "replaced" (ab (aa 1) (ab (eI 0) (ab (ag "replaced" (ab (eX 1 0) (ab (aa 2) (ab (ai bf (ai aw (eX 1 0) (aa 2)) (eI 1)) ah)))) ah)))) (gN 5))
  (ay (ag "replaced" (ab (aa 5) (ab (eI 1) (ab (ag "replaced" (a3 (eX 1 1) (aa 2) (aa 4))) ah)))))))
noncomputable def dW:Df:=⟨["program", "stand", "hand", "value"],2,jE⟩
noncomputable def lD:MS :=
  (ae (ak (rW dH (aa 2)) (gN 5))
  (ay (ag "replaced" (ab (aa 1) (ab (aa 5) (ab (ag "replaced" (ab (ai aw (aa 1) (aa 5)) (ab (ag "number_of" (a3 (aa 0) (aa 2) (aa 3))) (a1 (aa 4))))) ah))))))
noncomputable def fI:Df:=⟨["program", "stand", "sort", "name", "state"],1,lD⟩
noncomputable def pv:MS :=
  (ay (ai bf (ai bf (AQ (aa 0) jf (gp (aa 1))) (au (a1 (aa 2)))) (AQ (aa 0) (gp (ai bf (aa 1) (eI 1))) jf)))
noncomputable def iA:Df:=⟨["parts", "place", "part"],0,pv⟩
noncomputable def kL:MS :=
  (ae (ak (ai dA (eI 7919) (aa 1)) (gN 2))
  (ae (b6 (aM (ai Pu (eB cD (a1 (aa 0))) (eI 0))) (ak (ai bf (ai aw (aa 0) (ai fh (aa 1) (eB cD (a1 (aa 0))))) (ai dA (eI 1009) (ai ql (aa 1) (eB cD (a1 (aa 0)))))) (gN 2)) cP)
  (ay (bN (ab (ai dA (aa 2) (eB uU (ab (ai Sr (aa 2) (ai Gb (eI 10) (eI 18))) ah))) (a2 (aa 2) (eI 0)))))))
noncomputable def gq:Df:=⟨["_law_script", "_law_k"],1,kL⟩
noncomputable def jg:MS :=
  (ae (eJ dI (aa 0) (eI 2) (ai bf (eX 0 2) (eI 1)))
  (ae (b6 (aM (ai Pu (eX 0 0) (eI 0))) (ae (ak (ai fh (eX 0 0) (aa 1)) (gN 2))
  (ae (eJ dI (aa 0) (eI 0) (ai ql (eX 0 0) (aa 1)))
  (ay (aa 2)))) cP)
  (ae (ak (ai fh (ai dA (ai bf (ai fh (eX 0 1) (eI 2147483647)) (ai dA (eI 31) (eX 0 2))) (eI 48271)) (eI 2147483629)) (gN 3))
  (ae (ak (ai fh (ai dA (ai bf (ai ql (aa 3) (eI 11)) (ai dA (eI 17) (eX 0 2))) (eI 69621)) (eI 2147483587)) (gN 3))
  (ay (ai fh (ai ql (aa 3) (eI 7)) (aa 1)))))))
noncomputable def eZ:Df:=⟨["_law_box_here", "_law_many"],2,jg⟩
noncomputable def eK:MS :=
  (ae (ak (ag "_law_take" (a2 (aa 0) (eI 8))) (gN 3))
  (ae (b6 (Iv (mQ (aa 2) (eI 0)) (aM (ai D6 (aa 3) (eI 2)))) (ay (au (ab (eS "num") (ab (ai aw (bN (ab (eI 0) (ab (eI 1) (ab (eI 2) (ab (eI 3) (a3 (eI 7) (eI 500) (eI 999))))))) (ag "_law_take" (a2 (aa 0) (eI 7)))) ah)))) cP)
  (ae (b6 (aM (ai D6 (aa 3) (eI 5))) (ay (au (ab (eS "of") (ab (ai aw (aa 1) (ag "_law_take" (ab (aa 0) (ab (eB cD (a1 (aa 1))) ah)))) ah)))) cP)
  (ae (b6 (mQ (aa 3) (eI 5)) (ay (au (ab (eS "not") (ab (ag "_law_sum" (ab (aa 0) (ab (aa 1) (ab (ai qZ (aa 2) (eI 1)) ah)))) ah)))) cP)
  (ae (ak (ai aw (bN (ab (eS "add") (ab (eS "sub") (a3 (eS "mul") (eS "less") (eS "same"))))) (ag "_law_take" (a2 (aa 0) (eI 5)))) (gN 4))
  (ay (au (ab (aa 4) (ab (ag "_law_sum" (ab (aa 0) (ab (aa 1) (ab (ai qZ (aa 2) (eI 1)) ah)))) (ab (ag "_law_sum" (ab (aa 0) (ab (aa 1) (ab (ai qZ (aa 2) (eI 1)) ah)))) ah))))))))))
noncomputable def cT:Df:=⟨["_law_box_here", "_law_pockets", "_law_deep"],2,eK⟩
noncomputable def bP:MS :=
  (ae (ak (ai aw (aa 3) (ag "_law_take" (ab (aa 0) (ab (eB cD (a1 (aa 3))) ah)))) (gN 4))
  (ae (ak (ai aw (aa 2) (ag "_law_take" (ab (aa 0) (ab (eB cD (a1 (aa 2))) ah)))) (gN 5))
  (ae (b6 (aM (ai iW (aa 4) (au (a2 (eS "clock") (eS "lot"))))) (ay (uz (mQ (aa 4) (eS "clock")) (au (a2 (eS "clock") (aa 5))) (au (ab (eS "lot") (ab (aa 5) (ab (ai aw (bN (ab (eI 2) (a3 (eI 3) (eI 7) (eI 1000)))) (ag "_law_take" (a2 (aa 0) (eI 4)))) ah)))))) cP)
  (ae (ak (ai aw (uD (fA (eS "get") (eI 0) (fA (eS "put") (eI 0) (fA (eS "take") (eI 1) (fA (eS "free") (eI 1) (fA (eS "send") (eI 2) (fA (eS "fetch") (eI 2) (fA (eS "say") (eI 3) (fA (eS "hear") (eI 3) B2))))))))) (aa 4)) (gN 6))
  (ae (ak (ai aw (ai aw (aa 1) (aa 6)) (ag "_law_take" (ab (aa 0) (ab (eB cD (ab (ai aw (aa 1) (aa 6)) ah)) ah)))) (gN 7))
  (ae (b6 (aM (ai iW (aa 4) (au (a3 (eS "get") (eS "fetch") (eS "hear"))))) (ay (au (a3 (aa 4) (aa 5) (aa 7)))) cP)
  (ay (uz (aM (ai iW (aa 4) (au (a2 (eS "take") (eS "free"))))) (au (a2 (aa 4) (aa 7))) (au (ab (aa 4) (ab (aa 7) (ab (ag "_law_sum" (a3 (aa 0) (aa 2) (eI 2))) ah))))))))))))
noncomputable def aZ:Df:=⟨["_law_box_here", "_law_names", "_law_pockets", "_law_kinds"],4,bP⟩
noncomputable def nO:MS :=
  (ae (ak (bN (a2 (eS "clock") (eS "lot"))) (gN 3))
  (ae (jv (j7 (bN (ab (au (ab (eI 0) (ab (bN (a2 (eS "get") (eS "put"))) ah))) (ab (au (ab (eI 1) (ab (bN (a2 (eS "take") (eS "free"))) ah))) (ab (au (ab (eI 2) (ab (bN (a2 (eS "send") (eS "fetch"))) ah))) (ab (au (ab (eI 3) (ab (bN (a2 (eS "say") (eS "hear"))) ah))) ah)))))) (gT 2 (aG (gN 4) (aG (gN 5) eF))) (b6 (aM (ai iV (ai aw (aa 1) (aa 4)) (bN ah))) (ak (ai bf (ai bf (aa 3) (aa 5)) (aa 5)) (gN 3)) cP))
  (ae (ak (ai aw (bN (ab (ag "_law_take" (a2 (aa 0) (eI 4))) (ab (ai bf (eI 3) (ag "_law_take" (a2 (aa 0) (eI 8)))) ah))) (eB uU (ab (ai Pu (ag "_law_take" (a2 (aa 0) (eI 6))) (eI 0)) ah))) (gN 6))
  (ae (ak (bN ah) (gN 7))
  (ae (jv (de (a1 (aa 6))) (gN 8) (ae (ak (ag "_law_take" (a2 (aa 0) (eI 8))) (gN 9))
  (b6 (mQ (aa 9) (eI 0)) (cX (eM bu bY (aa 7) (ab (au (ab (eS "let") (ab (ai aw (aa 2) (ag "_law_take" (ab (aa 0) (ab (eB cD (a1 (aa 2))) ah)))) (ab (ag "_law_sum" (a3 (aa 0) (aa 2) (eI 2))) ah)))) ah))) (b6 (mQ (aa 9) (eI 1)) (cX (eM bu bY (aa 7) (ab (au (ab (eS "leap") (ab (ag "_law_take" (ab (aa 0) (ab (ai bf (aa 6) (eI 1)) ah))) (ab (ag "_law_sum" (a3 (aa 0) (aa 2) (eI 2))) ah)))) ah))) (cX (eM bu bY (aa 7) (ab (ag "_law_touch_row" (ab (aa 0) (a3 (aa 1) (aa 2) (aa 3)))) ah)))))))
  (ay (eB aN (a1 (aa 7)))))))))
noncomputable def gM:Df:=⟨["_law_box_here", "_law_names", "_law_pockets"],7,nO⟩
noncomputable def gb:MS :=
  (ae (ak (bN (ab (eS "a") (ab (eS "ab") (ab (eS "putter") (ab (eS "b") (ab (eS "getx") (ab (eS "abc") (ab (eS "locked") (ab (eS "sayer") (ab (eS "c") (a3 (eS "hands") (eS "fetched") (eS "abcdefgh")))))))))))) (gN 1))
  (ae (ak (ai bf (aa 1) (bN (ab (eS "boxes") (ab (eS "locks") (ab (eS "lanes") (ab (eS "doors") (ab (eS "d") (a3 (eS "taken") (eS "abcd") (eS "lots"))))))))) (gN 1))
  (ae (ak (ag "_law_take" (a2 (aa 0) (eI 20))) (gN 2))
  (ae (ak (ai bf (AQ (aa 1) (gp (aa 2)) jf) (AQ (aa 1) jf (gp (aa 2)))) (gN 1))
  (ae (ak (bN ah) (gN 3))
  (ae (jv (de (a1 (eI 4))) (gN 4) (ae (ak (ai aw (bN (ab (eI 1) (ab (eI 2) (ab (eI 4) (a3 (eI 0) (eI 2) (eI 3)))))) (ag "_law_take" (a2 (aa 0) (eI 6)))) (gN 5))
  (cX (eM bu bY (aa 3) (ab (AQ (aa 1) (gp (ai dA (eI 4) (aa 4))) (gp (ai bf (ai dA (eI 4) (aa 4)) (aa 5)))) ah)))))
  (ae (ak (eB aN (ab (jT 1 (j7 (eX 3 0)) (gN 10) aP (au (ab (aa 10) (ab (ai aw (bN (ab (eI 0) (a3 (eI 5) (eI 999) (eI 1)))) (ag "_law_take" (a2 (aa 0) (eI 4)))) ah)))) ah)) (gN 6))
  (ae (ak (bN ah) (gN 7))
  (ae (jv (de (ab (ai aw (bN (ab (eI 2) (ab (eI 2) (ab (eI 3) (a3 (eI 4) (eI 1) (eI 2)))))) (ag "_law_take" (a2 (aa 0) (eI 6)))) ah)) (gN 8) (ae (ak (AQ (bN (ab (eS "p") (ab (uz (aM (ai iV (eX 3 0) (bN ah))) (ai aw (eX 3 0) (eI 0)) (eS "q")) (ab (eS "pp") (ab (ai aw (aa 1) (ai bf (eI 16) (aa 8))) ah))))) jf (gp (ai bf (eI 1) (ag "_law_take" (a2 (aa 0) (eI 4)))))) (gN 9))
  (cX (eM bu bY (aa 7) (ab (au (ab (ai aw (aa 1) (ai bf (eI 16) (aa 8))) (ab (ag "_law_rows" (a3 (aa 0) (aa 3) (aa 9))) ah))) ah)))))
  (ay (au (ab (aa 6) (ab (eB aN (a1 (eX 3 1))) (ab (eB aN (a1 (eX 3 2))) (ab (eB aN (a1 (eX 3 3))) (ab (eB aN (a1 (aa 7))) ah))))))))))))))))
noncomputable def gu:Df:=⟨["_law_box_here"],9,gb⟩
noncomputable def bC:MS :=
  (ae (b6 (mQ (eX 0 0) (eS "num")) (ay (eX 0 1)) cP)
  (ae (b6 (mQ (eX 0 0) (eS "of")) (ay (yR (aa 1) (eX 0 1) (eI 0))) cP)
  (ae (ak (ag "_law_worth" (a2 (eX 0 1) (aa 1))) (gN 2))
  (ae (b6 (mQ (eX 0 0) (eS "not")) (ay (eB uU (ab (ai oz (aa 2) (eI 0)) ah))) cP)
  (ae (ak (ag "_law_worth" (a2 (eX 0 2) (aa 1))) (gN 3))
  (ae (b6 (aM (ai iW (eX 0 0) (au (a2 (eS "less") (eS "same"))))) (ay (uz (mQ (eX 0 0) (eS "less")) (eB uU (ab (ai D6 (aa 2) (aa 3)) ah)) (eB uU (ab (ai oz (aa 2) (aa 3)) ah)))) cP)
  (ay (ai fh (ai aw (uD (fA (eS "add") (ai bf (aa 2) (aa 3)) (fA (eS "sub") (ai qZ (aa 2) (aa 3)) (fA (eS "mul") (ai dA (aa 2) (aa 3)) B2)))) (eX 0 0)) (eI 1000)))))))))
noncomputable def aX:Df:=⟨["_law_e", "_law_pockets"],2,bC⟩
noncomputable def eR:MS :=
  (ae (b6 (Iv (mQ (eX 0 0) (eS "take")) (mQ (eX 0 0) (eS "free"))) (ay (ai oz (ai iW (eX 0 1) (aa 1)) (ai oz (eX 0 0) (eS "take")))) cP)
  (ay (ai iW (eX 0 0) (au (a2 (eS "let") (eS "leap"))))))
noncomputable def cE:Df:=⟨["_law_row_here", "_law_held"],0,eR⟩
noncomputable def jy:MS :=
  (ae (ak (eI 0) (gN 4))
  (ae (wQ (s9 (aM (ai D6 (aa 1) (eB cD (a1 (aa 0))))) (aM (ag "_law_is_own" (ab (ai aw (aa 0) (aa 1)) (a1 (aa 3)))))) (ae (b6 (mQ (aa 4) (eI 200)) (ay (eB cD (a1 (aa 0)))) cP)
  (ae (ak (ai aw (aa 0) (aa 1)) (gN 5))
  (ae (ak (ai bf (aa 4) (eI 1)) (gN 4))
  (ae (ak (ai bf (aa 1) (eI 1)) (gN 1))
  (ae (b6 (mQ (eX 5 0) (eS "let")) (eJ dI (aa 2) (eX 5 1) (ag "_law_worth" (a2 (eX 5 2) (aa 2)))) cP)
  (b6 (s9 (mQ (eX 5 0) (eS "leap")) (aM (ai iV (ag "_law_worth" (a2 (eX 5 2) (aa 2))) (eI 0)))) (ak (eX 5 1) (gN 1)) cP)))))))
  (ay (aa 1))))
noncomputable def eT:Df:=⟨["_law_rows_here", "_law_at", "_law_pockets", "_law_held"],2,jy⟩
noncomputable def iM:MS :=
  (ae (ak (uD (fA (eS "counts") (bN ah) (fA (eS "seats") (bN ah) (fA (eS "doors") (jT 1 (j7 (eX 0 3)) (gN 5) aP (eI 0)) B2)))) (gN 1))
  (ae (eJ dI (aa 1) (eS "boxes") (jT 1 (j7 (eX 0 0)) (gN 5) aP (au (a2 (eX 5 1) (eC .non)))))
  (ae (eJ dI (aa 1) (eS "locks") (jT 1 (j7 (eX 0 1)) (gN 5) aP (au (a2 (eC .non) (eC .non)))))
  (ae (eJ dI (aa 1) (eS "lanes") (jT 1 (j7 (eX 0 2)) (gN 5) aP (au (a3 (eI 0) (eI 0) (au ah)))))
  (ae (jv (j7 (eX 0 4)) (gN 2) (ae (ak tP (gN 3))
  (ae (ak (ag "_law_rest" (ab (eX 2 1) (a3 (eI 0) (aa 3) (bN ah)))) (gN 4))
  (ae (cX (eM bu bY (ai aw (aa 1) (eS "counts")) (a1 (eI 0))))
  (cX (eM bu bY (ai aw (aa 1) (eS "seats")) (ab (au (a3 (aa 4) (aa 3) (bN ah))) ah)))))))
  (ay (aa 1)))))))
noncomputable def iq:Df:=⟨["_law_program_here"],4,iM⟩
noncomputable def lO:MS :=
  (ae (ak (bN ah) (gN 1))
  (ae (jv (j7 (ai aw (aa 0) (eS "seats"))) (gT 3 (aG (gN 2) (aG (gN 3) (aG (gN 4) eF)))) (ae (ak (eB aN (ab (jT 1 (j7 (eB bI (a1 (aa 3)))) (gN 7) (aM (ai iV (ai aw (aa 3) (aa 7)) (eI 0))) (au (ab (aa 7) (ab (ai aw (aa 3) (aa 7)) ah)))) ah)) (gN 5))
  (cX (eM bu bY (aa 1) (ab (au (ab (aa 2) (ab (aa 5) (ab (eB aN (ab (eB bI (a1 (aa 4))) ah)) ah)))) ah)))))
  (ae (ak (au (ab (eB aN (ab (ai aw (aa 0) (eS "counts")) ah)) (ab (eB aN (a1 (aa 1))) (ab (eB aN (ab (ai aw (aa 0) (eS "boxes")) ah)) (ab (eB aN (ab (ai aw (aa 0) (eS "locks")) ah)) ah))))) (gN 6))
  (ay (ai bf (aa 6) (au (ab (eB aN (ab (ai aw (aa 0) (eS "lanes")) ah)) (ab (eB aN (ab (ai aw (aa 0) (eS "doors")) ah)) ah))))))))
noncomputable def fK:Df:=⟨["_law_state"],6,lO⟩
noncomputable def kJ:MS :=
  (ae (ak (ai aw (ai aw (eX 0 4) (aa 2)) (eI 1)) (gN 3))
  (ae (ak (ai aw (ai aw (ai aw (aa 1) (eS "seats")) (aa 2)) (eI 0)) (gN 4))
  (ay (uz (aM (ai D6 (aa 4) (eB cD (a1 (aa 3))))) (ai aw (aa 3) (aa 4)) (eC .non)))))
noncomputable def fV:Df:=⟨["_law_program_here", "_law_state", "_law_hand"],2,kJ⟩
noncomputable def cR:MS :=
  (ae (ak (ag "_law_row" (a3 (aa 0) (aa 1) (aa 2))) (gN 3))
  (ae (b6 (aM (Bp (hI false) (aa 3))) (ay (eS "end")) cP)
  (ae (b6 (mQ (eX 3 0) (eS "take")) (ae (ak (ai aw (ai aw (ai aw (aa 1) (eS "locks")) (E9 (eX 0 1) (a1 (eX 3 1)))) (eI 0)) (gN 4))
  (ay (uz (aM (Bp (hI false) (aa 4))) (eC .non) (au (a3 (eS "lock") (eX 3 1) (aa 4)))))) cP)
  (ae (b6 (s9 (mQ (eX 3 0) (eS "fetch")) (aM (ai oz (ai aw (ai aw (ai aw (aa 1) (eS "lanes")) (E9 (eX 0 2) (a1 (eX 3 2)))) (eI 2)) (au ah)))) (ay (au (a2 (eS "letter") (eX 3 2)))) cP)
  (ay (eC .non))))))
noncomputable def bZ:Df:=⟨["_law_program_here", "_law_state", "_law_hand"],2,cR⟩
noncomputable def iB:MS :=
  (ae (b6 (mQ (eX 2 0) (eS "get")) (ae (ak (ai aw (ai aw (aa 1) (eS "boxes")) (eM iC bY (jT 1 (j7 (eX 0 0)) (gN 8) aP (eX 8 0)) (a1 (eX 2 2)))) (gT 2 (aG (gN 5) (aG (gN 6) eF))))
  (ae (eJ dI (aa 4) (eX 2 1) (aa 5))
  (ay (au (ab (eS "get") (a3 (eX 2 2) (aa 5) (aa 6))))))) cP)
  (ae (ak (eM iC bY (jT 1 (j7 (eX 0 0)) (gN 8) aP (eX 8 0)) (a1 (eX 2 1))) (gN 7))
  (ae (ak (ai aw (ai aw (ai aw (aa 1) (eS "boxes")) (aa 7)) (eI 1)) (gN 6))
  (ae (eJ dI (ai aw (aa 1) (eS "boxes")) (aa 7) (au (ab (ag "_law_worth" (a2 (eX 2 2) (aa 4))) (a1 (aa 3)))))
  (ay (au (ab (eS "put") (ab (eX 2 1) (ab (ai aw (ai aw (ai aw (aa 1) (eS "boxes")) (aa 7)) (eI 0)) (a1 (aa 6)))))))))))
noncomputable def dU:Df:=⟨["_law_program_here", "_law_state", "_law_row_here", "_law_event", "_law_pockets"],3,iB⟩
noncomputable def gR:MS :=
  (ae (ak (E9 (eX 0 1) (a1 (eX 2 1))) (gN 5))
  (ae (ak (ai aw (ai aw (ai aw (aa 1) (eS "locks")) (aa 5)) (eI 1)) (gN 6))
  (ae (b6 (mQ (eX 2 0) (eS "take")) (ae (eJ dI (ai aw (aa 1) (eS "locks")) (aa 5) (au (a2 (eX 3 0) (aa 6))))
  (ae (cX (eM bu bY (aa 4) (a1 (eX 2 1))))
  (ay (au (ab (eS "take") (a3 (eX 2 1) (eC .non) (aa 6))))))) cP)
  (ae (eJ dI (ai aw (aa 1) (eS "locks")) (aa 5) (au (a2 (eC .non) (aa 3))))
  (ae (cX (eM lx bY (aa 4) (a1 (eX 2 1))))
  (ay (au (ab (eS "free") (a3 (eX 2 1) (eC .non) (eC .non))))))))))
noncomputable def dz:Df:=⟨["_law_program_here", "_law_state", "_law_row_here", "_law_event", "_law_held"],2,gR⟩
noncomputable def ip:MS :=
  (ae (b6 (mQ (eX 2 0) (eS "send")) (ae (ak (E9 (eX 0 2) (a1 (eX 2 1))) (gN 4))
  (ae (ak (ai aw (ai aw (aa 1) (eS "lanes")) (aa 4)) (gT 3 (aG (gN 5) (aG (gN 6) (aG (gN 7) eF)))))
  (ae (ak (ag "_law_worth" (a2 (eX 2 2) (aa 3))) (gN 8))
  (ae (eJ dI (ai aw (aa 1) (eS "lanes")) (aa 4) (au (ab (ai bf (aa 5) (eI 1)) (ab (aa 6) (ab (ai bf (aa 7) (au (a1 (aa 8)))) ah)))))
  (ay (au (ab (eS "send") (a3 (eX 2 1) (aa 8) (aa 5))))))))) cP)
  (ae (ak (E9 (eX 0 2) (a1 (eX 2 2))) (gN 4))
  (ae (ak (ai aw (ai aw (aa 1) (eS "lanes")) (aa 4)) (gT 3 (aG (gN 5) (aG (gN 6) (aG (gN 7) eF)))))
  (ae (eJ dI (ai aw (aa 1) (eS "lanes")) (aa 4) (au (ab (aa 5) (ab (ai bf (aa 6) (eI 1)) (ab (AQ (aa 7) (gp (eI 1)) jf) ah)))))
  (ae (eJ dI (aa 3) (eX 2 1) (eX 7 0))
  (ay (au (ab (eS "fetch") (a3 (eX 2 2) (eX 7 0) (aa 6))))))))))
noncomputable def d6:Df:=⟨["_law_program_here", "_law_state", "_law_row_here", "_law_pockets"],5,ip⟩
noncomputable def mH:MS :=
  (ae (ak (ai aw (ai aw (aa 1) (eS "seats")) (aa 2)) (gT 3 (aG (gN 4) (aG (gN 5) (aG (gN 6) eF)))))
  (ae (ak (ag "_law_row" (a3 (aa 0) (aa 1) (aa 2))) (gN 7))
  (ae (ak (au (ab (aa 2) (ab (ai aw (ai aw (aa 1) (eS "counts")) (aa 2)) ah))) (gN 8))
  (ae (b6 (aM (ai iW (eX 7 0) (au (a2 (eS "get") (eS "put"))))) (ak (ag "_law_boxed" (ab (aa 0) (ab (aa 1) (a3 (aa 7) (aa 8) (aa 5))))) (gN 9)) (b6 (aM (ai iW (eX 7 0) (au (a2 (eS "take") (eS "free"))))) (ak (ag "_law_locked" (ab (aa 0) (ab (aa 1) (a3 (aa 7) (aa 8) (aa 6))))) (gN 9)) (b6 (aM (ai iW (eX 7 0) (au (a2 (eS "send") (eS "fetch"))))) (ak (ag "_law_laned" (ab (aa 0) (a3 (aa 1) (aa 7) (aa 5)))) (gN 9)) (b6 (mQ (eX 7 0) (eS "say")) (ae (ak (E9 (eX 0 3) (a1 (eX 7 1))) (gN 10))
  (ae (ak (au (ab (eS "say") (ab (eX 7 1) (ab (ag "_law_worth" (a2 (eX 7 2) (aa 5))) (ab (ai aw (ai aw (aa 1) (eS "doors")) (aa 10)) ah))))) (gN 9))
  (eJ dI (ai aw (aa 1) (eS "doors")) (aa 10) (ai bf (ai aw (ai aw (aa 1) (eS "doors")) (aa 10)) (eI 1))))) (ae (eJ dI (aa 5) (eX 7 1) (aa 3))
  (ak (au (ab (eX 7 0) (ab (uz (mQ (eX 7 0) (eS "hear")) (eX 7 2) (eS "")) (a2 (aa 3) (eC .non))))) (gN 9)))))))
  (ae (eJ dI (ai aw (aa 1) (eS "counts")) (aa 2) (ai bf (eX 8 1) (eI 1)))
  (ae (eJ dI (ai aw (aa 1) (eS "seats")) (aa 2) (au (ab (ag "_law_rest" (ab (ai aw (ai aw (eX 0 4) (aa 2)) (eI 1)) (ab (ai bf (aa 4) (eI 1)) (a2 (aa 5) (aa 6))))) (a2 (aa 5) (aa 6)))))
  (ay (aa 9))))))))
noncomputable def m5:Df:=⟨["_law_program_here", "_law_state", "_law_hand", "_law_gift_here"],7,mH⟩
noncomputable def qx:MS :=
  (ay (jT 1 (de (ab (eB cD (a1 (eX 0 4))) ah)) (gN 2) (aM (Bp (hI false) (ag "_law_wait" (a3 (aa 0) (aa 1) (aa 2))))) (aa 2)))
noncomputable def ir:Df:=⟨["_law_program_here", "_law_state"],0,qx⟩
noncomputable def gH:MS :=
  (ae (b6 (aM (ai ko (eX 1 0) (au (a3 (eS "clock") (eS "lot") (eS "hear"))))) (ay (eC .non)) cP)
  (ae (ak (uz (mQ (eX 1 0) (eS "lot")) (eX 1 2) (eI 1000)) (gN 2))
  (ay (ai aw (bN (ab (eI 0) (ab (ai qZ (aa 2) (eI 1)) (ab (ag "_law_take" (a2 (aa 0) (aa 2))) (ab (ag "_law_take" (a2 (aa 0) (eI 2))) ah))))) (ag "_law_take" (a2 (aa 0) (eI 4)))))))
noncomputable def dO:Df:=⟨["_law_box_here", "_law_row_here"],1,gH⟩
noncomputable def ja:MS :=
  (ae (ak (eB ia (a1 (aa 0))) (gN 1))
  (ae (eJ dI (aa 1) (eS "seats") (jT 3 (j7 (ai aw (aa 0) (eS "seats"))) (gT 3 (aG (gN 3) (aG (gN 4) (aG (gN 5) eF)))) aP (au (ab (aa 3) (ab (eB ia (a1 (aa 4))) (ab (eB gU (a1 (aa 5))) ah))))))
  (ae (jv (j7 (au (ab (eS "counts") (ab (eS "boxes") (a3 (eS "locks") (eS "lanes") (eS "doors")))))) (gN 2) (eJ dI (aa 1) (aa 2) (eB gU (ab (ai aw (aa 0) (aa 2)) ah))))
  (ay (aa 1)))))
noncomputable def ju:Df:=⟨["_law_state"],2,ja⟩
noncomputable def fW:MS :=
  (ae (ak (eB fw (a1 (aa 1))) (gN 5))
  (ae (ak (ag "_law_copy" (a1 (aa 2))) (gN 6))
  (ae (ak (ag "_law_go" (ab (aa 0) (a3 (aa 6) (aa 3) (aa 4)))) (gN 7))
  (ae (ak (eB fw (ab (au (ab (ag "_law_stand" (a1 (aa 6))) (a1 (aa 7)))) ah)) (gN 8))
  (ae (jv (de (a1 (eI 2))) (gN 9) (b6 (Iv (aM (ai iV (eB fw (ab (ag "gone" (ab (aa 0) (a3 (aa 1) (aa 3) (aa 4)))) ah)) (aa 8))) (aM (ai iV (eB fw (a1 (aa 1))) (aa 5)))) (ay (eC (.bl false))) cP))
  (ay (eC (.bl true))))))))
noncomputable def gh:Df:=⟨["_law_program_here", "_law_stand_here", "_law_state", "_law_hand", "_law_gift_here"],5,fW⟩
noncomputable def BJ:MS :=
  (ae (ak (ag "_law_box" (a2 (aa 0) (eI 0))) (gN 1))
  (ae (ak (bN (ab (ag "_law_program" (a1 (aa 1))) (ab (ag "_law_program" (a1 (aa 1))) ah))) (gN 2))
  (ae (ak (jT 1 (j7 (aa 2)) (gN 12) aP (ag "_law_first" (a1 (aa 12)))) (gN 3))
  (ae (ak (jT 1 (j7 (aa 2)) (gN 12) aP (ag "first_stand" (a1 (aa 12)))) (gN 4))
  (ae (jv (de (ab (ai dA (eI 2) (ai bf (eI 1) (ag "_law_take" (a2 (aa 1) (eI 14))))) ah)) (gN 5) (ae (ak (ai aw (aa 2) (ai fh (aa 5) (eI 2))) (gN 6))
  (ae (ak (ai aw (aa 3) (ai fh (aa 5) (eI 2))) (gN 7))
  (ae (ak (ag "_law_can" (a2 (aa 6) (aa 7))) (gN 8))
  (ae (ak (jT 1 (j7 (aa 8)) (gN 12) aP (ag "_law_gift" (ab (aa 1) (ab (ag "_law_row" (a3 (aa 6) (aa 7) (aa 12))) ah)))) (gN 9))
  (ae (jv (de (ab (eB cD (a1 (aa 8))) ah)) (gN 10) (b6 (AA (aM (ag "_law_is_step" (ab (aa 6) (ab (ai aw (aa 4) (ai fh (aa 5) (eI 2))) (ab (aa 7) (ab (ai aw (aa 8) (aa 10)) (ab (ai aw (aa 9) (aa 10)) ah)))))))) (ay (eC (.bl false))) cP))
  (b6 (aM (ai iV (aa 8) (bN ah))) (ae (ak (ag "_law_take" (ab (aa 1) (ab (eB cD (a1 (aa 8))) ah))) (gN 11))
  (ae (eJ dI (aa 4) (ai fh (aa 5) (eI 2)) (ai aw (ag "gone" (ab (aa 6) (ab (ai aw (aa 4) (ai fh (aa 5) (eI 2))) (ab (ai aw (aa 8) (aa 11)) (ab (ai aw (aa 9) (aa 11)) ah))))) (eI 0)))
  (cX (ag "_law_go" (ab (aa 6) (ab (aa 7) (ab (ai aw (aa 8) (aa 11)) (ab (ai aw (aa 9) (aa 11)) ah)))))))) cP)))))))
  (ay (eC (.bl true))))))))
noncomputable def EC:Df:=⟨["_law_script"],11,BJ⟩
structure cb(pg:Tb):Prop where
 xt:pg.fns "is_whole" =some iN
 sM:pg.fns "is_between" =some fD
 xG:pg.fns "is_value" =some iQ
 ou:pg.fns "worth" =some iD
 oW:pg.fns "joined_worth" =some dY
 xi:pg.fns "names_of" =some dF
 vA:pg.fns "number_of" =some gL
 Bh:pg.fns "rows_of" =some jR
 tj:pg.fns "first_seat" =some fG
 Co:pg.fns "rested" =some lS
 uY:pg.fns "is_rested" =some eW
 t9:pg.fns "is_own_row" =some fC
 mW:pg.fns "behind_own_row" =some bQ
 JB:pg.fns "laid" =some pC
 yj:pg.fns "touch_of" =some fS
 qX:pg.fns "seat_behind" =some ck
 xM:pg.fns "may_come" =some fY
 qF:pg.fns "first_stand" =some eQ
 yc:pg.fns "hands_of" =some iE
 xJ:pg.fns "state_of" =some iK
 zP:pg.fns "wait_of" =some c9
 EA:pg.fns "gone" =some qf
 uS:pg.fns "due_touch" =some gK
 ua:pg.fns "takes_gift" =some d8
 eL:pg.fns "meeting" =some cG
 pL:pg.fns "with_hand_on" =some dW
 sC:pg.fns "with_state" =some fI
 xx:pg.fns "replaced" =some iA
 qr:pg.fns "_law_box" =some gq
 nI:pg.fns "_law_take" =some eZ
 gj:pg.fns "_law_sum" =some cT
 cw:pg.fns "_law_touch_row" =some aZ
 u6:pg.fns "_law_rows" =some gM
 o6:pg.fns "_law_program" =some gu
 fJ:pg.fns "_law_worth" =some aX
 qN:pg.fns "_law_is_own" =some cE
 ve:pg.fns "_law_rest" =some eT
 tY:pg.fns "_law_first" =some iq
 sW:pg.fns "_law_stand" =some fK
 xu:pg.fns "_law_row" =some fV
 vI:pg.fns "_law_wait" =some bZ
 kZ:pg.fns "_law_boxed" =some dU
 ke:pg.fns "_law_locked" =some dz
 kW:pg.fns "_law_laned" =some d6
 Aq:pg.fns "_law_go" =some m5
 yd:pg.fns "_law_can" =some ir
 i7:pg.fns "_law_gift" =some dO
 vk:pg.fns "_law_copy" =some ju
 oT:pg.fns "_law_is_step" =some gh
 IJ:pg.fns "law" =some EC
 Ro:pg.con "SORTS" =some (.ktup [(.str "box"),(.str "lock"),(.str "lane"),(.str "door"),(.str "hand")])
 PD:pg.con "WORTHS" =some (.int 1000)
 Bz:pg.con "MOST_OWN_ROWS" =some (.int 200)
 IS:pg.con "POCKETING" =some (.ktup [(.str "get"),(.str "fetch"),(.str "clock"),(.str "lot"),(.str "hear")])
 Qx:pg.con "COUNTS" =some (.int 0)
 Rx:pg.con "SEATS" =some (.int 1)
 Q7:pg.con "GIFTED" =some (.ktup [(.str "clock"),(.str "lot"),(.str "hear")])
 fg:pg.yP "ROW_PARTS" =some fg
 dH:pg.yP "PLACE_OF" =some dH
 fT:pg.yP "MET_SORT" =some fT
noncomputable def LZ:List (String × Df):=[("is_whole",iN),("is_between",fD),("is_value",iQ),("worth",iD),("joined_worth",dY),("names_of",dF),("number_of",gL),("rows_of",jR),("first_seat",fG),("rested",lS),("is_rested",eW),("is_own_row",fC),("behind_own_row",bQ),("laid",pC),("touch_of",fS),("seat_behind",ck),("may_come",fY),("first_stand",eQ),("hands_of",iE),("state_of",iK),("wait_of",c9),("gone",qf),("due_touch",gK),("takes_gift",d8),("meeting",cG),("with_hand_on",dW),("with_state",fI),("replaced",iA),("_law_box",gq),("_law_take",eZ),("_law_sum",cT),("_law_touch_row",aZ),("_law_rows",gM),("_law_program",gu),("_law_worth",aX),("_law_is_own",cE),("_law_rest",eT),("_law_first",iq),("_law_stand",fK),("_law_row",fV),("_law_wait",bZ),("_law_boxed",dU),("_law_locked",dz),("_law_laned",d6),("_law_go",m5),("_law_can",ir),("_law_gift",dO),("_law_copy",ju),("_law_is_step",gh),("law",EC)]
noncomputable def conT:List (Str × PV):=[("SORTS",(.ktup [(.str "box"),(.str "lock"),(.str "lane"),(.str "door"),(.str "hand")])),("WORTHS",(.int 1000)),("MOST_OWN_ROWS",(.int 200)),("POCKETING",(.ktup [(.str "get"),(.str "fetch"),(.str "clock"),(.str "lot"),(.str "hear")])),("COUNTS",(.int 0)),("SEATS",(.int 1)),("GIFTED",(.ktup [(.str "clock"),(.str "lot"),(.str "hear")]))]
noncomputable def dcT:List (Str × List (Key × PV)):=[("ROW_PARTS",fg),("PLACE_OF",dH),("MET_SORT",fT)]
noncomputable def tb:Tb:=⟨λf=>(LZ.find? λp=>p.1 == f).map (·.2),λx=>(conT.find? λp=>decide (p.1=x)).map (·.2),λx=>(dcT.find? λp=>decide (p.1=x)).map (·.2)⟩
theorem aK{l:List (String × Df)}(nd:(l.map (·.1)).Nodup)(i:Nat){f:String}{d:Df}(e:l[i]?=some (f,d)):(l.find? λp=>p.1 == f).map (·.2)=some d:=by
 induction l generalizing i d with
 | nil=>exact nomatch e
 | cons x l ih =>
  rw[Ul,Wz] at nd
  cases i with
  | zero =>
   rw[Zs] at e
   cases e
   rw[List.find?_cons_of_pos (by simp)];rfl
  | succ i =>
   rw[UE] at e
   have m:(f,d)∈l:=Uq e
   have ne: ¬ (x.1 == f)=true:=λz=>nd.1 (by rw[beq_iff_eq.mp z];exact UZ.mpr ⟨_,m,rfl⟩)
   rw[List.find?_cons_of_neg (p:=λp:String × Df=>p.1 == f) ne]
   exact ih nd.2 i e
theorem aJ:(LZ.map (·.1)).Nodup:=by decide +kernel
theorem has:cb tb:=⟨aK aJ 0 rfl,aK aJ 1 rfl,aK aJ 2 rfl,aK aJ 3 rfl,aK aJ 4 rfl,aK aJ 5 rfl,aK aJ 6 rfl,aK aJ 7 rfl,aK aJ 8 rfl,aK aJ 9 rfl,aK aJ 10 rfl,aK aJ 11 rfl,aK aJ 12 rfl,aK aJ 13 rfl,aK aJ 14 rfl,aK aJ 15 rfl,aK aJ 16 rfl,aK aJ 17 rfl,aK aJ 18 rfl,aK aJ 19 rfl,aK aJ 20 rfl,aK aJ 21 rfl,aK aJ 22 rfl,aK aJ 23 rfl,aK aJ 24 rfl,aK aJ 25 rfl,aK aJ 26 rfl,aK aJ 27 rfl,aK aJ 28 rfl,aK aJ 29 rfl,aK aJ 30 rfl,aK aJ 31 rfl,aK aJ 32 rfl,aK aJ 33 rfl,aK aJ 34 rfl,aK aJ 35 rfl,aK aJ 36 rfl,aK aJ 37 rfl,aK aJ 38 rfl,aK aJ 39 rfl,aK aJ 40 rfl,aK aJ 41 rfl,aK aJ 42 rfl,aK aJ 43 rfl,aK aJ 44 rfl,aK aJ 45 rfl,aK aJ 46 rfl,aK aJ 47 rfl,aK aJ 48 rfl,aK aJ 49 rfl,rfl,rfl,rfl,rfl,rfl,rfl,rfl,rfl,rfl,rfl⟩
local macro_rules
 | `(tactic| array_get_dec)=> do
  let tm (x:String):Lean.MacroM Lean.Term:=match x with
   | "?"=>`(?_)
   | "_"=>`(_)
   | "A"=>`(by assumption)
   | "R"=>`(rfl)
   | "F"=>`(λ_ _=>rfl)
   | "K"=>`(by decide +kernel)
   | "D"=>`(by decide)
   | "Q"=>`(⟨rfl,rfl,rfl,rfl⟩)
   | "L"=>`(λ_ _ _ _ _ _=>⟨λ_=>?_,?_,?_⟩)
   | "O"=>`(by first | exact abl rfl | exact aah rfl)
   | "Z"=>`(by intro z;cases z)
   | "w"=>`(Ej _)
   | x=>pure (Lean.mkIdent x.toName)
  let al (a:String):Lean.MacroM (Lean.TSyntax `tactic):=do
   match a.splitOn " " with
   | ["p",q,n]=>`(tactic| refine $(Lean.mkIdent q.toName) ($(Lean.mkIdent n.toName) ?_ ?_))
   | [n]=>`(tactic| refine $(Lean.mkIdent n.toName))
   | n::r=>do
     let ts ← r.toArray.mapM tm
     `(tactic| refine $(Lean.mkIdent n.toName) $ts*)
   | []=>Lean.Macro.throwUnsupported
  let fs (x:List (Lean.TSyntax `tactic)):Lean.MacroM (Lean.TSyntax `tactic):=do
   let e ← `(tactic| fail)
   x.foldrM (λa b=>`(tactic| first | $a:tactic | $b:tactic)) e
  let gr (g:String):Lean.MacroM (Lean.TSyntax `tactic):=do
   match g.splitOn ":" with
   | [h,b]=>do
     let y ← fs (← (b.splitOn "|").mapM al)
     match h.splitOn " " with
     | [n,k]=>do
       let hs ← (Array.range k.toNat!).mapM λ_=>`(_)
       `(tactic| (show $(Lean.mkIdent n.toName) $hs*;$y:tactic))
     | _=>Lean.Macro.throwUnsupported
   | _=>Lean.Macro.throwUnsupported
  let a ← ("JE 5:NW _|MY|Lb|Kt|OG|Qf Sf ? ? F|E1 A R ?|OA ? ? ?|AU R R ?|zY A R ?|zZ ? ?|Lf ?|Le ?|BZ ? ? ? w|BZ ? ? ? R|NA ?|Ey ? ? ? ? ?|NV ?|Kk ? ?|Pc ? ?|K8 ?|CP ? ? ?|Fg A R ? F|Cv ? ? ?|Ez|Hr ? R R Z D|Gq ? ? ? Q|Jp ? L|Nb ? L|Js ? L|NK A R|HU O1 R K PySem.boot_len ?|HU Pr R K boot_isinstance ?|HU AH R K boot_sorted ?|Gn QC R K boot_int ?|Gn Ih R K boot_tuple ?|Gn MR R K boot_list ?|Gn M9 R K boot_dict ?|HU FX R K boot_repr ?|vL R K boot_int|vL R K boot_bool|vL R K boot_list|vL R K boot_tuple|vL R K boot_dict|Ni PySem.F.plainAttrs_list PySem.F.slot_list_append PySem.F.type_list_append DW ? ?|Ni PySem.F.plainAttrs_list PySem.F.slot_list_remove PySem.F.type_list_remove CG ? ?|Ni PySem.F.plainAttrs_list PySem.F.slot_list_index PySem.F.type_list_index C0 ? ?#JA 5:Nv|Ho ? ?#yF 5:He|GD ?|DR ? ?#JS 5:MH A ? L|Jx A ? L|Ls A R O ?|Oo ? ? ?|K7 ?|F9 ?|Ng OQ ? ? ?|JM ? ?|J5 ? ? ? PassesOwn.never|DZ ? ? PassesOwn.never|Ei#JT 5:BK ? ? ? w|BK ? ? ? R|Jw ?|Gv ?|p JW.pt Cw|p JW.pt IV|Mv ?|MV ?#JW 5:Cw ? ?|IV ? ?|HS ?|MF ?#JO 5:FL|GJ ?#JP 7:Kq|GQ ? ? ?#JG 5:F2 A R O|ND ?#PR 5:Hu|Ed ? ?#JI 6:zT R ?|Ki R ? ?|Kg ?#JF 5:Kz|Lr ?#QG 3:yT A R O|HL A ?#Mm 3:zw|vf ? ?".splitOn "#").mapM gr
  let b ← ("P6|Jy|Qk|MC|Rb|Qz|Sj|Sz|Sg|Sx|Sk|Sa|Si|F5".splitOn "|").mapM al
  let t ← fs (a++b)
  `(tactic| repeat' first | $t:tactic | fail)
local macro_rules
 | `(tactic| clean_wf)=> `(tactic| (refine bj.on (by assumption) ⟨rfl,rfl,rfl,by decide +kernel,rfl,by decide +kernel,by decide +kernel⟩ rfl (λ_ _ _ _ _ _=>by first | exact Ta λ_=>rfl | exact Tn λ_ _=>rfl | exact S9 λ_ _ _=>rfl | exact TM λ_ _ _ _=>rfl | exact Ub λ_ _ _ _ _=>rfl) λ_ _ _ _ _ _ _ _ _ _=>?_;obtain⟨⟩:= ‹cb _›; array_get_dec))
section
variable {P:UN} {w:World} {K:Ud} {mg:Str->Option Value} {pg:Tb}
theorem wK (T:cb pg) (a:At K mg "is_whole" (top 4)):bj P w K mg pg "is_whole" iN (top 4) ["thing"]:=by clean_wf
theorem t4 (T:cb pg) (a:At K mg "is_between" (top 5)):bj P w K mg pg "is_between" fD (top 5) ["thing", "least", "most"]:=by clean_wf
theorem xO (T:cb pg) (a:At K mg "is_value" (top 6)):bj P w K mg pg "is_value" iQ (top 6) ["thing"]:=by clean_wf
theorem Hc (T:cb pg) (a:At K mg "worth" (top 11)):bj P w K mg pg "worth" iD (top 11) ["tree", "pockets", "word", "one"]:=by clean_wf
theorem o9 (T:cb pg) (a:At K mg "joined_worth" (top 12)):bj P w K mg pg "joined_worth" dY (top 12) ["word", "one", "other"]:=by clean_wf
theorem xg (T:cb pg) (a:At K mg "names_of" (top 14)):bj P w K mg pg "names_of" dF (top 14) ["program", "sort", "ones"]:=by
 have z0:(pF ["program", "sort", "ones"] ["one"]).Nodup:=by decide +kernel
 clean_wf
theorem vM (T:cb pg) (a:At K mg "number_of" (top 15)):bj P w K mg pg "number_of" gL (top 15) ["program", "sort", "name", "names"]:=by clean_wf
theorem zR (T:cb pg) (a:At K mg "rows_of" (top 16)):bj P w K mg pg "rows_of" jR (top 16) ["program", "hand"]:=by clean_wf
theorem tT (T:cb pg) (a:At K mg "first_seat" (top 20)):bj P w K mg pg "first_seat" fG (top 20) ["program", "hand"]:=by clean_wf
theorem CW (T:cb pg) (a:At K mg "rested" (top 21)):bj P w K mg pg "rested" lS (top 21) ["program", "hand", "seat", "rows", "here", "turn"]:=by clean_wf
theorem uG (T:cb pg) (a:At K mg "is_rested" (top 22)):bj P w K mg pg "is_rested" eW (top 22) ["rows", "seat"]:=by clean_wf
theorem ub (T:cb pg) (a:At K mg "is_own_row" (top 23)):bj P w K mg pg "is_own_row" fC (top 23) ["row", "held"]:=by clean_wf
theorem nq (T:cb pg) (a:At K mg "behind_own_row" (top 24)):bj P w K mg pg "behind_own_row" bQ (top 24) ["row", "seat", "onward"]:=by clean_wf
theorem Nq (T:cb pg) (a:At K mg "laid" (top 25)):bj P w K mg pg "laid" pC (top 25) ["pockets", "name", "value", "others"]:=by
 have z0:(pF ["pockets", "name", "value", "others"] ["pocket"]).Nodup:=by decide +kernel
 clean_wf
theorem xc (T:cb pg) (a:At K mg "touch_of" (top 26)):bj P w K mg pg "touch_of" fS (top 26) ["program", "hand", "seat", "rows", "row", "thing", "value", "part", "entry"]:=by clean_wf
theorem qV (T:cb pg) (a:At K mg "seat_behind" (top 27)):bj P w K mg pg "seat_behind" ck (top 27) ["program", "hand", "seat", "value", "row", "pockets", "held"]:=by
 have z0:(pF ["program", "hand", "seat", "value", "row", "pockets", "held"] ["lock"]).Nodup:=by decide +kernel
 clean_wf
theorem wD (T:cb pg) (a:At K mg "may_come" (top 28)):bj P w K mg pg "may_come" fY (top 28) ["touch", "value"]:=by clean_wf
theorem q8 (T:cb pg) (a:At K mg "first_stand" (top 33)):bj P w K mg pg "first_stand" eQ (top 33) ["program", "hands"]:=by
 have z0:(pF ["program", "hands"] ["hand"]).Nodup:=by decide +kernel
 have z1:(pF ["program", "hands"] ["box"]).Nodup:=by decide +kernel
 have z2:(pF ["program", "hands"] ["lock"]).Nodup:=by decide +kernel
 have z3:(pF ["program", "hands"] ["lane"]).Nodup:=by decide +kernel
 have z4:(pF ["program", "hands"] ["door"]).Nodup:=by decide +kernel
 clean_wf
theorem xF (T:cb pg) (a:At K mg "hands_of" (top 34)):bj P w K mg pg "hands_of" iE (top 34) ["program"]:=by clean_wf
theorem w6 (T:cb pg) (a:At K mg "state_of" (top 35)):bj P w K mg pg "state_of" iK (top 35) ["program", "stand", "sort", "name"]:=by clean_wf
theorem zL (T:cb pg) (a:At K mg "wait_of" (top 36)):bj P w K mg pg "wait_of" c9 (top 36) ["program", "stand", "hand", "touch", "holder"]:=by clean_wf
theorem KW (T:cb pg) (a:At K mg "gone" (top 40)):bj P w K mg pg "gone" qf (top 40) ["program", "stand", "hand", "gift", "touch", "kind", "thing", "sort", "met", "behind"]:=by clean_wf
theorem vm (T:cb pg) (a:At K mg "due_touch" (top 41)):bj P w K mg pg "due_touch" gK (top 41) ["program", "stand", "hand", "gift", "wait", "touch"]:=by clean_wf
theorem ui (T:cb pg) (a:At K mg "takes_gift" (top 42)):bj P w K mg pg "takes_gift" d8 (top 42) ["touch", "gift"]:=by clean_wf
theorem Bd (T:cb pg) (a:At K mg "meeting" (top 43)):bj P w K mg pg "meeting" cG (top 43) ["touch", "event", "state", "kind", "value"]:=by clean_wf
theorem qp (T:cb pg) (a:At K mg "with_hand_on" (top 44)):bj P w K mg pg "with_hand_on" dW (top 44) ["program", "stand", "hand", "value", "seat", "counted"]:=by clean_wf
theorem uh (T:cb pg) (a:At K mg "with_state" (top 45)):bj P w K mg pg "with_state" fI (top 45) ["program", "stand", "sort", "name", "state", "place"]:=by clean_wf
theorem yf (T:cb pg) (a:At K mg "replaced" (top 46)):bj P w K mg pg "replaced" iA (top 46) ["parts", "place", "part"]:=by clean_wf
theorem xr (T:cb pg) (a:At K mg "_law_box" (top 48)):bj P w K mg pg "_law_box" gq (top 48) ["_law_script", "_law_k", "_law_cell"]:=by clean_wf
theorem v9 (T:cb pg) (a:At K mg "_law_take" (top 49)):bj P w K mg pg "_law_take" eZ (top 49) ["_law_box_here", "_law_many", "_law_found", "_law_mixed"]:=by clean_wf
theorem xW (T:cb pg) (a:At K mg "_law_sum" (top 50)):bj P w K mg pg "_law_sum" cT (top 50) ["_law_box_here", "_law_pockets", "_law_deep", "_law_way", "_law_word"]:=by clean_wf
theorem nr (T:cb pg) (a:At K mg "_law_touch_row" (top 51)):bj P w K mg pg "_law_touch_row" aZ (top 51) ["_law_box_here", "_law_names", "_law_pockets", "_law_kinds", "_law_kind", "_law_pocket", "_law_sort", "_law_thing"]:=by clean_wf
theorem wg (T:cb pg) (a:At K mg "_law_rows" (top 52)):bj P w K mg pg "_law_rows" gM (top 52) ["_law_box_here", "_law_names", "_law_pockets", "_law_kinds", "_law_sort", "_law_more", "_law_many", "_law_rows_here", "_law_k", "_law_way"]:=by clean_wf
theorem pR (T:cb pg) (a:At K mg "_law_program" (top 53)):bj P w K mg pg "_law_program" gu (top 53) ["_law_box_here", "_law_pool", "_law_turn", "_law_names", "_law_sort", "_law_many", "_law_boxes", "_law_hands", "_law_k", "_law_pockets"]:=by
 have z0:(pF ["_law_box_here", "_law_pool", "_law_turn", "_law_names", "_law_sort", "_law_many", "_law_boxes", "_law_hands", "_law_k", "_law_pockets"] ["_law_name"]).Nodup:=by decide +kernel
 clean_wf
theorem sD (T:cb pg) (a:At K mg "_law_worth" (top 54)):bj P w K mg pg "_law_worth" aX (top 54) ["_law_e", "_law_pockets", "_law_one", "_law_other"]:=by clean_wf
theorem qW (T:cb pg) (a:At K mg "_law_is_own" (top 55)):bj P w K mg pg "_law_is_own" cE (top 55) ["_law_row_here", "_law_held"]:=by clean_wf
theorem we (T:cb pg) (a:At K mg "_law_rest" (top 56)):bj P w K mg pg "_law_rest" eT (top 56) ["_law_rows_here", "_law_at", "_law_pockets", "_law_held", "_law_gone_over", "_law_row_here"]:=by clean_wf
theorem tV (T:cb pg) (a:At K mg "_law_first" (top 57)):bj P w K mg pg "_law_first" iq (top 57) ["_law_program_here", "_law_state", "_law_hand", "_law_pockets", "_law_at"]:=by
 have z0:(pF ["_law_program_here", "_law_state", "_law_hand", "_law_pockets", "_law_at"] ["_law_name"]).Nodup:=by decide +kernel
 have z1:(pF ["_law_program_here", "_law_state", "_law_hand", "_law_pockets", "_law_at"] ["_law_one"]).Nodup:=by decide +kernel
 clean_wf
theorem ud (T:cb pg) (a:At K mg "_law_stand" (top 58)):bj P w K mg pg "_law_stand" fK (top 58) ["_law_state", "_law_seats", "_law_at", "_law_pockets", "_law_held", "_law_some", "_law_found"]:=by
 have z0:(pF ["_law_state", "_law_seats", "_law_at", "_law_pockets", "_law_held", "_law_some", "_law_found"] ["_law_name"]).Nodup:=by decide +kernel
 clean_wf
theorem xZ (T:cb pg) (a:At K mg "_law_row" (top 59)):bj P w K mg pg "_law_row" fV (top 59) ["_law_program_here", "_law_state", "_law_hand", "_law_rows_here", "_law_at"]:=by clean_wf
theorem vj (T:cb pg) (a:At K mg "_law_wait" (top 60)):bj P w K mg pg "_law_wait" bZ (top 60) ["_law_program_here", "_law_state", "_law_hand", "_law_row_here", "_law_holder"]:=by clean_wf
theorem sN (T:cb pg) (a:At K mg "_law_boxed" (top 61)):bj P w K mg pg "_law_boxed" dU (top 61) ["_law_program_here", "_law_state", "_law_row_here", "_law_event", "_law_pockets", "_law_value", "_law_mark", "_law_place"]:=by
 have z0:(pF ["_law_program_here", "_law_state", "_law_row_here", "_law_event", "_law_pockets", "_law_value", "_law_mark", "_law_place"] ["_law_one"]).Nodup:=by decide +kernel
 clean_wf
theorem qD (T:cb pg) (a:At K mg "_law_locked" (top 62)):bj P w K mg pg "_law_locked" dz (top 62) ["_law_program_here", "_law_state", "_law_row_here", "_law_event", "_law_held", "_law_place", "_law_mark"]:=by clean_wf
theorem tN (T:cb pg) (a:At K mg "_law_laned" (top 63)):bj P w K mg pg "_law_laned" d6 (top 63) ["_law_program_here", "_law_state", "_law_row_here", "_law_pockets", "_law_place", "_law_sent", "_law_fetched", "_law_letters", "_law_value"]:=by clean_wf
theorem zH (T:cb pg) (a:At K mg "_law_go" (top 64)):bj P w K mg pg "_law_go" m5 (top 64) ["_law_program_here", "_law_state", "_law_hand", "_law_gift_here", "_law_at", "_law_pockets", "_law_held", "_law_row_here", "_law_event", "_law_look", "_law_place"]:=by clean_wf
theorem xf (T:cb pg) (a:At K mg "_law_can" (top 65)):bj P w K mg pg "_law_can" ir (top 65) ["_law_program_here", "_law_state"]:=by
 have z0:(pF ["_law_program_here", "_law_state"] ["_law_hand"]).Nodup:=by decide +kernel
 clean_wf
theorem uL (T:cb pg) (a:At K mg "_law_gift" (top 66)):bj P w K mg pg "_law_gift" dO (top 66) ["_law_box_here", "_law_row_here", "_law_most"]:=by clean_wf
theorem uK (T:cb pg) (a:At K mg "_law_copy" (top 67)):bj P w K mg pg "_law_copy" ju (top 67) ["_law_state", "_law_found", "_law_word"]:=by
 have z0:(pF ["_law_state", "_law_found", "_law_word"] ["_law_at", "_law_pockets", "_law_held"]).Nodup:=by decide +kernel
 clean_wf
theorem qi (T:cb pg) (a:At K mg "_law_is_step" (top 68)):bj P w K mg pg "_law_is_step" gh (top 68) ["_law_program_here", "_law_stand_here", "_law_state", "_law_hand", "_law_gift_here", "_law_kept", "_law_behind", "_law_look", "_law_due", "_law_k"]:=by clean_wf
theorem IP (T:cb pg) (a:At K mg "law" (top 69)):bj P w K mg pg "law" EC (top 69) ["_law_script", "_law_box_here", "_law_programs", "_law_states", "_law_stands", "_law_k", "_law_program_here", "_law_state", "_law_can_here", "_law_gifts", "_law_n", "_law_at"]:=by
 have z0:(pF ["_law_script", "_law_box_here", "_law_programs", "_law_states", "_law_stands", "_law_k", "_law_program_here", "_law_state", "_law_can_here", "_law_gifts", "_law_n", "_law_at"] ["_law_program_here"]).Nodup:=by decide +kernel
 have z1:(pF ["_law_script", "_law_box_here", "_law_programs", "_law_states", "_law_stands", "_law_k", "_law_program_here", "_law_state", "_law_can_here", "_law_gifts", "_law_n", "_law_at"] ["_law_hand"]).Nodup:=by decide +kernel
 clean_wf
end
end K21
end
section
open PySem L2 P3
local macro_rules
 | `(tactic| simp? [$ls,*])=> `(tactic| simp? (disch:=omega) only [$ls,*])
 | `(tactic| simp? (disch:= $t) only [$ls,*])=> do
  let xs ← ("↓Jf ↓Jd ↓Q6 O7 ↓PJ Lu Nw ↓Ii D9 ↓Iu Lm Ks ↓Jb B7 DJ Ct ↓IG B3 ↓Qm ↓wI ug ↓Od LJ ↓Ko Hi Hd FV ↓OD MN LR Ml ↓NL E2 ↓Qs LI LH LG NS ↓LF ↓HC Ca D4 B9 Eg ↓Lj FO Hk FC F3 ↓FK Ci ↓HM ↓sP ↓lZ jU jM ↓BR zv ↓LM Fx sX ↓zu ↓OH ↓Sq ↓Pp M5 KI F6 HG GA ↓ED yZ Fw G7 Ib ↓OM ↓GR Ek ↓Kl FE ↓NN FF FP HX EZ ↓Km EW Fd Nm IF Mz Ka MZ LD O4 Mb ML ↓KH GW HE E4 Mr ↓m7 jV C4 ↓DI DC JX tQ tO Me ↓oF lQ ↓J9 GV DS Dv ↓P4 Nh KA OT Nk G9 G3 Gx FR Na cB Du jx Gy nF List.getElem?_cons_zero List.getElem?_cons_succ List.set_cons_zero List.set_cons_succ List.map_cons List.map_nil List.cons_append List.nil_append List.replicate_succ List.replicate_zero List.length_cons List.length_nil G8 Fn jO oA Cy tJ E8 JV MU mM xU GN ER Gs Hb sZ jX uR Bm uJ Lp jk NI lF P9 EV sy Cf RU len_T NU QZ ↓MK FU Cd Hh Gk Eh Oq Jm pY Mj DK ↓Cr bM bo gW xy tD p7 CB xY B1 zB ↓PK Lg NT ↓Ov ↓Ql MM Ot SV Qc List.append_assoc List.length_append xq yE in_K ↓Py K9 QJ Qj IW Mq aO decide_true decide_false Bool.not_true Bool.not_false if_true if_false reduceIte ite_self Bool.false_eq_true String.reduceEq String.reduceNe reduceCtorEq Int.reduceEq Int.reduceNe Int.reduceLT Int.reduceLE Int.reduceSub Int.reduceAdd Int.reduceMul Int.reduceToNat Int.reduceNeg".splitOn " ").toArray.mapM λw=>if w.startsWith "↓" then `(Lean.Parser.Tactic.simpLemma| ↓$(Lean.mkIdent (w.drop 1).toName):term) else `(Lean.Parser.Tactic.simpLemma| $(Lean.mkIdent w.toName):term)
  let ys : Lean.TSyntaxArray [`Lean.Parser.Tactic.simpStar,`Lean.Parser.Tactic.simpErase,`Lean.Parser.Tactic.simpLemma] := ls.getElems ++ xs.map (λx=>⟨x.raw⟩)
  `(tactic| simp (disch:= $t) only [$ys,*])
section
set_option maxHeartbeats 1000000
namespace K21
inductive Bo where | add | sub | mul | less | same
 deriving DecidableEq
noncomputable def Bo.w:Bo->Str
 | .add=> "add" | .sub=> "sub" | .mul=> "mul" | .less=> "less" | .same=> "same"
noncomputable def Bo.f:Bo->Int->Int->Int
 | .add,a,b=>(a+b) % 1000
 | .sub,a,b=>(a - b) % 1000
 | .mul,a,b=>a*b % 1000
 | .less,a,b=>if a < b then 1 else 0
 | .same,a,b=>if a=b then 1 else 0
inductive Sm where
 | num (n:Int) | of (x:Str) | un (a:Sm) | bin (o:Bo) (a b:Sm)
noncomputable def hZ:Sm->PV
 | .num n=> .tup [.str "num",.int n]
 | .of x=> .tup [.str "of",.str x]
 | .un a=> .tup [.str "not",hZ a]
 | .bin o a b=> .tup [.str o.w,hZ a,hZ b]
noncomputable def Sm.dp:Sm->Nat
 | .num _=>1 | .of _=>1 | .un a=>a.dp+1 | .bin _ a b=>max a.dp b.dp+1
noncomputable def Sm.ok:Sm->Prop
 | .num n=>0<=n/\n<=999 | .of _=>True | .un a=>a.ok | .bin _ a b=>a.ok/\b.ok
noncomputable def Sm.val(f:Str->Int):Sm->Int
 | .num n=>n
 | .of x=>f x
 | .un a=>if a.val f=0 then 1 else 0
 | .bin o a b=>o.f (a.val f) (b.val f)
theorem Sm.nh {f : Str -> Int} (hf : ∀ x, 0 <= f x /\ f x <= 999) : ∀ e : Sm, e.ok -> 0 <= e.val f /\ e.val f <= 999
  | .num n, h => h
  | .of x, _ => hf x
  | .un a, _ => by unfold Sm.val; split <;> omega
  | .bin o a b, _ => by
    unfold Sm.val Bo.f;cases o <;> simp only <;> first
      | (split <;> omega)
      | exact ⟨W3 _ (by decide), by have := Wt (Sm.val f a + Sm.val f b) (show (0 : Int) < 1000 by decide); omega⟩
      | exact ⟨W3 _ (by decide), by have := Wt (Sm.val f a - Sm.val f b) (show (0 : Int) < 1000 by decide); omega⟩
      | exact ⟨W3 _ (by decide), by have := Wt (Sm.val f a * Sm.val f b) (show (0 : Int) < 1000 by decide); omega⟩
theorem fj: ∀ e:Sm,(hZ e).flat=true
 | .num n=>rfl
 | .of x=>rfl
 | .un a=>by simp[hZ,PV.flat,PV.bF,fj a]
 | .bin o a b=>by simp[hZ,PV.flat,PV.bF,fj a,fj b]
abbrev Pk:=List (Str × Int)
noncomputable def uC(ps:Pk):PV:= .tup (ps.map cO)
noncomputable def fP:Pk->Str->Int
 | [],_=>0
 | q::r,x=>if q.1=x then q.2 else fP r x
structure TU(ps:Pk):Prop where
 Ru:(ps.map (·.1)).Pairwise iT
 mem: ∀ q∈ps,1<=q.2/\q.2<=999
 len:ps.length<=20
theorem wa: ∀{ps:Pk},(∀ q∈ps,1<=q.2/\q.2<=999)-> ∀ x,0<=fP ps x/\fP ps x<=999
 | [],_,x=>by simp[fP]
 | q::r,h,x=>by
  unfold fP;split
  . have:=h q Uv;omega
  . exact wa (λz hz=>h z (Uz _ hz)) x
theorem jF: ∀(ps:Pk),PV.bF (ps.map cO)=true
 | []=>rfl
 | q::r=>by simp[PV.bF,cO,PV.flat,jF r]
noncomputable def cQ(ps:Pk):List (Key × PV):=ps.map λq=>(.inr q.1,.int q.2)
theorem vd: ∀(ps:Pk),jn (ps.map cO)=some (cQ ps)
 | []=>rfl
 | q::r=>by simp[jn,cO,pairP?,iF,vd r,cQ]
theorem xE: ∀(ps:Pk)(x:Str),(bT (cQ ps) (.inr x)).getD (.int 0)= .int (fP ps x)
 | [],x=>rfl
 | q::r,x=>by
  unfold fP cQ;rw[Ul];by_cases e:q.1=x
  . rw[if_pos e,e,sy];rfl
  . rw[if_neg e,wq (by simpa using e)];exact xE r x
theorem Ig: ∀{kvs:List (Key × PV)}{k:Key}{v:PV},k ∉ kvs.map (λkv:Key × PV=>kv.1)->cM kvs k v=kvs++[(k,v)]:=by
 intro kvs k v h;unfold cM;rw[if_neg];simp only[abq,decide_eq_true_eq,not_exists,not_and];exact λx hx e=>h (UZ.mpr ⟨x,hx,e⟩)
theorem vK: ∀(more acc:List (Key × PV)),((acc++more).map (λkv:Key × PV=>kv.1)).Nodup->bW acc more=acc++more
 | [],acc,_=>by simp[bW]
 | p::r,acc,h=>by
  have h2:p.1 ∉ acc.map (λkv:Key × PV=>kv.1):=by
   rw[Vh,Xb] at h;intro m;exact h.2.2 p.1 m p.1 (by simp) rfl
  show bW (cM acc p.1 p.2) r=_;rw [Ig h2,vK r _ (by simpa using h)];simp
theorem uI {ps : Pk} (nd : (ps.map (·.1)).Nodup) : bW [] (cQ ps) = cQ ps := by
  rw [vK _ _ ?_]; · rfl
  have e : ([] ++ cQ ps).map (λkv : Key × PV => kv.1) = (ps.map (·.1)).map (VZ (α := Int)) := by unfold cQ; rw [UR, Ve, Ve]; rfl
  rw [e];exact List.Pairwise.map _ (λa b z e => z (aab e)) nd
section
variable {pg:Tb} (T:cb pg)
include T
theorem Qg(k:Nat)(o:Bo)(a b:Int)(h:PH)(ha:0<=a/\a<=999):run pg (k+1) "joined_worth" [.str o.w,.int a,.int b] h= .ok (.int (o.f a b)) h:=by
 rw[run_eq T.oW rfl];cases o<;>simp? [dY,i8,Bo.w,Bo.f]
 all_goals split<;>rfl
theorem iY(h:PH){ps:Pk}(nd:(ps.map (·.1)).Nodup)(hm: ∀ q∈ps,1<=q.2/\q.2<=999)(hl:ps.length<=1000): ∀(e:Sm)(k:Nat),e.ok->e.dp<=k->run pg (k+1) "worth" [hZ e,uC ps] h= .ok (.int (e.val (fP ps))) h
 | .num n,k,ho,hk=>by
  rw[run_eq T.ou rfl];simp? [iD,kY,hZ,Sm.val]
 | .of x,k,ho,hk=>by
  rw[run_eq T.ou rfl];have hz:(ps.map cO).length < 16777216:=by rw[Ui];omega
  simp? [iD,kY,hZ,uC,Sm.val,vd,uI nd,xE,DK hz];exact cj rfl
 | .un a,k,ho,hk=>by
  obtain⟨k,rfl⟩: ∃ j,k=j+1:=⟨k - 1,by unfold Sm.dp at hk;omega⟩
  have ih:=iY h nd hm hl a k ho (by unfold Sm.dp at hk;omega);rw[run_eq T.ou rfl];simp? [iD,kY,hZ,Sm.val,ih];split<;>rfl
 | .bin o a b,k,ho,hk=>by
  obtain⟨k,rfl⟩: ∃ j,k=j+1:=⟨k - 1,by unfold Sm.dp at hk;omega⟩
  have ih1:=iY h nd hm hl a k ho.1 (by unfold Sm.dp at hk;omega);have ih2:=iY h nd hm hl b k ho.2 (by unfold Sm.dp at hk;omega);have ij:=Qg T k o (a.val (fP ps)) (b.val (fP ps)) h (Sm.nh (wa hm) a ho.1);rw[run_eq T.ou rfl];cases o<;>(simp only[Bo.w] at ij;simp? [iD,kY,hZ,Sm.val,ih1,ih2,ij,Bo.w])
end
theorem qm{h:PH}{n:Nat}{os:Pk}(e:h[n]?=some (.lst (os.map cO)))(hl:os.length < 64)(nd:(os.map (·.1)).Nodup):bI [.ref n] h= .ok (.ref h.length) (h++[.lst ((la os).map cO)]):=by
 have hi:itemsOf h (.ref n)=some (os.map cO):=by simp[itemsOf,cV,e]
 show fF [.ref n] h=_;unfold fF;simp only[hi];cases os with
 | nil=>simp[fe,cv,la]
 | cons q r =>
  have e1:fe ((q::r).map cO)=none:=rfl
  rw[e1]
  simp only[wd]
  rw[if_pos ⟨hl,nd⟩]
noncomputable def lay(ps:Pk)(x:Str)(v:Int):Pk:=la (ps.filter (λq=> !decide (q.1=x))++if v=0 then[] else[(x,v)])
theorem iG(ps:Pk):(la ps).Perm ps:=Xn ps _
theorem Bj{ps:Pk}(nd:(ps.map (·.1)).Nodup):((la ps).map (·.1)).Pairwise iT:=by
 have h1:(la ps).Pairwise λa b=>oC a.1 b.1=true:=WR (λa b c=>hX a.1 b.1 c.1) (λa b=>by simpa using jL a.1 b.1) ps;have h2:((la ps).map (·.1)).Nodup:=((iG ps).map _).nodup_iff.mpr nd
 rw[WG];rw[List.nodup_iff_pairwise_ne,WG] at h2;refine h1.imp₂ (λa b z1 z2=>?_) h2;rcases mP z2 with z | z
 . exact z
 . unfold oC at z1;simp[z] at z1
theorem mS{ps:Pk}(nd:(ps.map (·.1)).Nodup): ∀ q∈ps,fP ps q.1=q.2:=by
 induction ps with
 | nil=>intro q m;cases m
 | cons p r ih =>
  intro q m
  rw[Ul] at nd;rw[Wz] at nd
  unfold fP
  rcases Uy.mp m with e | m
  . rw[if_pos (by rw[e]),e]
  . rw[if_neg (λz=>nd.1 (by rw[z];exact UZ.mpr ⟨q,m,rfl⟩))];exact ih nd.2 q m
theorem kD{ps:Pk}{x:Str}(h:x ∉ ps.map (·.1)):fP ps x=0:=by
 induction ps with
 | nil=>rfl
 | cons p r ih =>
  rw[Ul,Uy,not_or] at h
  unfold fP
  rw[if_neg (λz=>h.1 z.symm)]
  exact ih h.2
theorem GG{ps qs:Pk}(p:ps.Perm qs)(nd:(qs.map (·.1)).Nodup)(x:Str):fP ps x=fP qs x:=by
 by_cases hx:x∈qs.map (·.1)
 . obtain⟨q,m,rfl⟩:=UZ.mp hx;rw[mS nd q m,mS ((p.map (·.1)).nodup_iff.mpr nd) q (p.mem_iff.mpr m)]
 . rw[kD hx,kD λz=>hx ((p.map (·.1)).mem_iff.mp z)]
theorem xX{ps:Pk}(nd:(ps.map (·.1)).Nodup)(x:Str)(v:Int):((ps.filter (λq=> !decide (q.1=x))++if v=0 then[] else[(x,v)]).map (·.1)).Nodup:=by
 rw[Vh];refine Xb.mpr ⟨(List.Sublist.map _ Xo).nodup nd,?_,λa ha b hb e=>?_⟩
 . split<;>simp
 . split at hb
   . cases hb
   . obtain⟨q,m,rfl⟩:=UZ.mp ha;have hb':b=x:=by simpa using hb
     have:=(VL.mp m).2;simp only[V9,decide_eq_false_iff_not] at this;exact this (e.trans hb')
theorem sH{ps:Pk}(nd:(ps.map (·.1)).Nodup)(x:Str)(v:Int)(y:Str):fP (lay ps x v) y=if y=x then v else fP ps y:=by
 rw[lay,GG (iG _) (xX nd x v)];have app: ∀(l m:Pk)(y:Str),fP (l++m) y=if y∈l.map (·.1) then fP l y else fP m y:=by
  intro l m y
  induction l with
  | nil=>rfl
  | cons q r ih =>
   rw[Vq,fP,fP,ih]
   by_cases e:q.1=y
   . rw[if_pos e,if_pos e,if_pos (by rw[Ul,e];exact Uv)]
   . have e': ¬ y=q.1:=λz=>e z.symm;rw[if_neg e,if_neg e];simp only[Ul,Uy,e',false_or]
 have fil: ∀ l:Pk,¬ y=x->fP (l.filter λq=> !decide (q.1=x)) y=fP l y:=by
  intro l ne
  induction l with
  | nil=>rfl
  | cons q r ih =>
   by_cases e:q.1=x
   . rw[Va (by simp[e]),fP,if_neg (λz=>ne (z.symm.trans e)),ih]
   . rw[U0 (by simp[e]),fP,fP,ih]
 rw[app];by_cases e:y=x
 . rw[if_pos e,if_neg]
   . split
     . rename_i z;rw[z];rfl
     . rw[fP,if_pos e.symm]
   . intro z;obtain⟨q,m,rfl⟩:=UZ.mp z;have:=(VL.mp m).2;simp[e] at this
 . rw[if_neg e,fil ps e];split
   . rfl
   . rename_i z;have h0:fP ps y=0:=by
      rw[<- fil ps e];exact kD z
     rw[h0];split
     . rfl
     . rw[fP,if_neg (λz=>e z.symm)];rfl
structure ky(L:List Str)(ps:Pk):Prop where
 Ru:(ps.map (·.1)).Pairwise iT
 mem: ∀ q∈ps,q.1∈L/\1<=q.2/\q.2<=999
theorem ky.nd{L:List Str}{ps:Pk}(h:ky L ps):(ps.map (·.1)).Nodup:=h.Ru.imp λ{a b} z e=>by subst e;exact kq _ z
theorem ky.len{L:List Str}{ps:Pk}(h:ky L ps):ps.length<=L.length:=by
 have:=WS h.nd (l₂ :=L) (λx hx=>by obtain⟨q,hq,rfl⟩:=UZ.mp hx;exact(h.mem q hq).1);simpa using this
theorem ky.nil{L:List Str}:ky L []:=⟨.nil,λq m=>by cases m⟩
theorem yq{L:List Str}{ps:Pk}{x:Str}{v:Int}(h:ky L ps)(hx:x∈L)(h0:0<=v)(h9:v<=999):ky L (lay ps x v):=by
 refine⟨Bj (xX h.nd x v),λq m=>?_⟩;rcases Vl.mp ((iG _).mem_iff.mp m) with m | m
 . exact h.mem q (VL.mp m).1
 . split at m
   . cases m
   . rw[Vc.mp m];exact⟨hx,show 1<=v by omega,h9⟩
theorem Mg{L:List Str}{ps qs:Pk}(h1:ky L ps)(h2:ky L qs)(e: ∀ x,fP ps x=fP qs x):ps=qs:=by
 have key: ∀{ps qs:Pk},ky L ps->ky L qs->(∀ x,fP ps x=fP qs x)-> ∀ q∈ps,q∈qs:=λ{ps qs} h1 h2 e q m=>by
  have h:=mS h1.nd q m;have hx:q.1∈qs.map (·.1):=YV λz=>by
   have:=(h1.mem q m).2.1;rw[e,kD z] at h;omega
  obtain⟨q',m',e'⟩:=UZ.mp hx;have h':=mS h2.nd q' m';rw[e',<- e,h] at h';have:q'=q:=Prod.ext e' h'.symm;rw[<- this];exact m'
 refine ib (le:=λa b=>iT a.1 b.1) (λa _ b _ z1 z2=>absurd z2 (jS z1)) ?_ (by simpa [WG] using h1.Ru) (by simpa [WG] using h2.Ru);have n1:ps.Nodup:=aao (R:=(· ≠ ·)) (·.1) (λa b z e=>z (by rw[e])) h1.nd
 have n2:qs.Nodup:=aao (R:=(· ≠ ·)) (·.1) (λa b z e=>z (by rw[e])) h2.nd
 exact(Xd n1 n2).mpr λq=>⟨key h1 h2 e q,key h2 h1 (λx=>(e x).symm) q⟩
theorem nu(x:Str): ∀ ps:Pk,(ps.filterMap λq=>if q.1=x then none else some (cO q))=(ps.filter (λq=> !decide (q.1=x))).map cO
 | []=>rfl
 | q::r=>by
  by_cases z:q.1=x
  . rw[V4 (by simp[z]),Va (by simp[z]),nu x r]
  . rw[V5 (by rw[if_neg z]),U0 (by simp[z]),Ul,nu x r]
section
variable{pg:Tb}(T:cb pg)
include T
theorem yD(k:Nat)(h:PH){ps:Pk}(nd:(ps.map (·.1)).Nodup)(x:Str)(v:Int)(hl:(lay ps x v).length<=20)(hp:ps.length<=1000):run pg (k+1) "laid" [uC ps,.str x,.int v] h= .ok (uC (lay ps x v)) h:=by
 rw[run_eq T.JB rfl];have e1:fH ⟨none,ps.map cO⟩ (aQ 1 (gN 4) (aM (ai iV (eX 4 0) (aa 1))) (aa 4) (run pg k) [some (.tup (ps.map cO)),some (.str x),some (.int v),none]) (ps.map cO) [] h= .ok ([]++ps.filterMap λq=>if q.1=x then none else some (cO q)) h:=by
  refine fE rfl ps [] (λq m=>?_) (by simp;omega);simp? [cO];by_cases z:q.1=x<;>simp[z]
 rw[nu,UR] at e1;have hl':(ps.filter (λq=> !decide (q.1=x))++if v=0 then[] else[(x,v)]).length<=20:=by rw[<- (iG _).length_eq];exact hl
 have nd':=xX nd x v;have hz:((ps.filter (λq=> !decide (q.1=x))).map cO).length < 16777216:=by
  rw[Ui];have:=W7 (λq:Str × Int=> !decide (q.1=x)) ps;omega
 by_cases hv:v=0
 . subst hv;rw[if_pos rfl,U3] at hl' nd';have s1:=qm (h:=h++[.lst ((ps.filter (λq=> !decide (q.1=x))).map cO)]) (n:=h.length) bM (XB hl' (by decide)) nd';simp? [pC,xI,uC,e1,s1];rw[cj (v:= .tup _) (jF _),lay,if_pos rfl,U3]
 . rw[if_neg hv] at hl' nd';have s1:=qm (h:=h++[.lst ((ps.filter (λq=> !decide (q.1=x))++[(x,v)]).map cO)]) (n:=h.length) bM (XB hl' (by decide)) nd';rw[Vh] at s1;simp? [pC,xI,uC,e1,hv,pY hz];rw[show Zw cO [(x,v)]=[PV.tup [PV.str x,PV.int v]] from rfl] at s1;simp? [s1,Ul,UU];rw[cj (v:= .tup _) (jF _),lay,if_neg hv]
end
inductive Rw where
 | let_ (x:Str) (e:Sm) | leap (k:Int) (e:Sm) | take (l:Str) | free (l:Str) | get (x b:Str) | put (b:Str) (e:Sm)
 | send (l:Str) (e:Sm) | fetch (x l:Str) | say (d:Str) (e:Sm) | clock (x:Str) | lot (x:Str) (n:Int) | hear (x d:Str)
noncomputable def Rw.w:Rw->Str
 | .let_ _ _=> "let" | .leap _ _=> "leap" | .take _=> "take" | .free _=> "free" | .get _ _=> "get" | .put _ _=> "put"
 | .send _ _=> "send" | .fetch _ _=> "fetch" | .say _ _=> "say" | .clock _=> "clock" | .lot _ _=> "lot" | .hear _ _=> "hear"
noncomputable def Rw.ps:Rw->List PV
 | .let_ x e=>[.str x,hZ e] | .leap k e=>[.int k,hZ e] | .take l=>[.str l] | .free l=>[.str l] | .get x b=>[.str x,.str b] | .put b e=>[.str b,hZ e]
 | .send l e=>[.str l,hZ e] | .fetch x l=>[.str x,.str l] | .say d e=>[.str d,hZ e] | .clock x=>[.str x] | .lot x n=>[.str x,.int n] | .hear x d=>[.str x,.str d]
noncomputable def br(r:Rw):PV:= .tup (.str r.w::r.ps)
noncomputable def bH(rs:List Rw):PV:= .tup (rs.map br)
structure aF where
 row:Nat
 ps:Pk
 held:List Str
noncomputable def ki(hs:List Str):PV:= .tup (hs.map PV.str)
noncomputable def az(s:aF):PV:= .tup [.int s.row,uC s.ps,ki s.held]
noncomputable def own(held:List Str):Rw->Bool
 | .take l=>decide (l∈held)
 | .free l=> !decide (l∈held)
 | .let_ _ _=>true
 | .leap _ _=>true
 | _=>false
noncomputable def jC(e:Sm):Prop:=e.ok/\e.dp<=7
noncomputable def eU(L:List Str)(n:Nat):Rw->Prop
 | .let_ x e=>x∈L/\jC e
 | .leap k e=>0<=k/\k<=n/\jC e
 | .put _ e=>jC e
 | .send _ e=>jC e
 | .say _ e=>jC e
 | .get x _=>x∈L
 | .fetch x _=>x∈L
 | .clock x=>x∈L
 | .lot x m=>x∈L/\2<=m/\m<=1000
 | .hear x _=>x∈L
 | _=>True
noncomputable def behind(s:aF):Rw->aF
 | .let_ x e=>⟨s.row+1,lay s.ps x (e.val (fP s.ps)),s.held⟩
 | .leap k e=>if e.val (fP s.ps)=0 then⟨s.row+1,s.ps,s.held⟩ else⟨k.toNat,s.ps,s.held⟩
 | _=>⟨s.row+1,s.ps,s.held⟩
structure dq(L:List Str)(rs:List Rw)(s:aF):Prop where
 pk:ky L s.ps
 le:s.row<=rs.length
theorem sj: ∀ hs:List Str,PV.bF (hs.map PV.str)=true
 | []=>rfl
 | x::r=>by rw[Ul,PV.bF,sj r];rfl
theorem kP(s:aF):(az s).flat=true:=by
 simp[az,PV.flat,PV.bF,uC,jF,ki,sj]
theorem Ef(r:Rw):(br r).flat=true:=by
 cases r<;>simp[br,Rw.ps,PV.flat,PV.bF,fj]
theorem mD: ∀ rs:List Rw,PV.bF (rs.map br)=true
 | []=>rfl
 | x::r=>by rw[Ul,PV.bF,mD r,Ef];rfl
noncomputable def bw(rs:List Rw)(s:aF):Bool:=match rs[s.row]? with
 | none=>true
 | some r=> !own s.held r
noncomputable def bh(rs:List Rw):Nat->aF->aF
 | 0,s=>if bw rs s then s else⟨rs.length,s.ps,s.held⟩
 | n+1,s=>if bw rs s then s else match rs[s.row]? with
  | none=>s
  | some r=>bh rs n (behind s r)
theorem jQ{L:List Str}{rs:List Rw}{s:aF}{r:Rw}(h:dq L rs s)(hr:eU L rs.length r)(e:rs[s.row]?=some r):dq L rs (behind s r):=by
 have hlt:s.row < rs.length:=(Uh.mp e).1;cases r with
 | let_ x e0 =>
  have hv:=Sm.nh (wa λq m=>(h.pk.mem q m).2) e0 hr.2.1
  exact⟨yq h.pk hr.1 hv.1 hv.2,hlt⟩
 | leap j e0 =>
  show dq L rs (if e0.val (fP s.ps)=0 then⟨s.row+1,s.ps,s.held⟩ else⟨j.toNat,s.ps,s.held⟩)
  split
  . exact ⟨h.pk,hlt⟩
  . exact ⟨h.pk,by have:=hr.2.1;have:=hr.1;show YB _<=rs.length;omega⟩
 | _=>exact ⟨h.pk,hlt⟩
theorem pJ {L : List Str} {rs : List Rw} (hr : ∀ r ∈ rs, eU L rs.length r) : ∀ (n : Nat) (s : aF), dq L rs s -> dq L rs (bh rs n s)
  | 0, s, h => by unfold bh; split; · exact h
                  . exact ⟨h.pk, Nat.le_refl _⟩
  | n + 1, s, h => by
    unfold bh; split
    . exact h
    . split
      . exact h
      . rename_i r e; exact pJ hr n _ (jQ h (hr r (Uq e)) e)
theorem hV{rs:List Rw}{s:aF}{r:Rw}(e:rs[s.row]?=some r):dS (rs.map br) (s.row:Int)=some (br r):=P3.cZ rfl (by rw[UA,e];rfl)
section
variable{pg:Tb}(T:cb pg)
include T
theorem Md(k:Nat)(h:PH)(r:Rw)(held:List Str):run pg (k+1) "is_own_row" [br r,ki held] h= .ok (.bl (own held r)) h:=by
 rw[run_eq T.t9 rfl];cases r<;>simp? [fC,kX,br,Rw.w,Rw.ps,ki,own]
theorem Bg(k:Nat)(h:PH){L:List Str}(hL:L.length<=20){rs:List Rw}{s:aF}{r:Rw}(hs:dq L rs s)(hr:eU L rs.length r)(hrow:rs[s.row]?=some r):run pg (k+9) "behind_own_row" [br r,az s] h= .ok (az (behind s r)) h:=by
 have nd:=hs.pk.nd;have hm: ∀ q∈s.ps,1<=q.2/\q.2<=999:=λq m=>(hs.pk.mem q m).2;have hl:=hs.pk.len;have w: ∀ e:Sm,jC e->run pg (k+8) "worth" [hZ e,uC s.ps] h= .ok (.int (e.val (fP s.ps))) h:=λe he=>iY T h nd hm (by omega) e (k+7) he.1 (by have:=he.2;omega);rw[run_eq T.mW rfl];cases r with
 | let_ x e =>
  have hb:=(jQ hs hr hrow).pk.len
  have l1:=yD T (k+7) h nd x (e.val (fP s.ps)) (UO hb hL) (by omega)
  simp? [bQ,c8,br,Rw.w,Rw.ps,az,behind,w e hr.2,l1]
  rfl
 | leap j e =>
  simp? [bQ,c8,br,Rw.w,Rw.ps,az,behind,w e hr.2.2]
  by_cases z:e.val (fP s.ps)=0
  . simp only[z,if_true];rfl
  . have:((j.toNat:Nat):Int)=j:=by have:=hr.1;omega
    simp only[z,if_false,this]
 | _ =>
  simp? [bQ,c8,br,Rw.w,Rw.ps,az,behind]
  rfl
theorem k7(k:Nat)(h:PH){rs:List Rw}{s:aF}(hs:s.row<=rs.length):run pg (k+2) "is_rested" [bH rs,az s] h= .ok (.bl (bw rs s)) h:=by
 rw[run_eq T.uY rfl];cases e:rs[s.row]? with
 | none =>
  have:s.row=rs.length:=by have:=VE.mp e;omega
  have r1:bw rs s=true:=by unfold bw;rw[e]
  simp? [eW,jr,bH,az,r1,this,Ui]
 | some r =>
  have hlt:s.row < rs.length:=(Uh.mp e).1
  have ne: ¬ (s.row:Int)=(rs.length:Int):=by omega
  have ix:=kC (h:=h) (hV e)
  have o1:=Md T k h r s.held
  simp? [eW,jr,bH,az,bw,e,ne,ix,o1,Ui]
noncomputable def mN(p:PV)(j:Int)(rs:List Rw):Prop:= ∃ a b c d hs nm,p= .tup [a,b,c,d,.tup hs]/\dS hs j=some (.tup [nm,bH rs])
theorem kN(k:Nat)(h:PH){p:PV}{j:Int}{rs:List Rw}(hp:mN p j rs):run pg (k+1) "rows_of" [p,.int j] h= .ok (bH rs) h:=by
 obtain⟨a,b,c,d,hs,nm,rfl,e⟩:=hp;rw[run_eq T.Bh rfl];simp? [jR,rZ,kC e]
theorem ic(k:Nat)(h:PH){L:List Str}(hL:L.length<=20){p:PV}{j:Int}{rs:List Rw}(hp:mN p j rs)(hr: ∀ r∈rs,eU L rs.length r){s:aF}(hs:dq L rs s):run pg (k+10) "rested" [p,.int j,az s] h= .ok (az (bh rs 200 s)) h:=by
 have rest: ∀(xs xs0:List PV)(s0 s:aF)(tv:Option PV),dq L rs s ->
   ((bJ ⟨none,xs0⟩ (bA (gN 5) (ae (b6 (aM (ag "is_rested" (a2 (aa 3) (aa 4)))) (ay (aa 4)) cP) (ak (ag "behind_own_row" (ab (ai aw (aa 3) (eX 4 0)) (a1 (aa 4)))) (gN 4))) (run pg (k+9))) xs
    [some p,some (.int j),some (az s0),some (bH rs),some (az s),tv] h).bind
    (AW (ae (b6 (aM (ag "is_rested" (a2 (aa 3) (aa 4)))) (ay (aa 4)) cP) (ay (au (ab (eB cD (a1 (aa 3))) (a2 (eX 4 1) (eX 4 2)))))) (run pg (k+9))))= .ok (.rt (az (bh rs xs.length s))) h:=by
  intro xs xs0 s0
  induction xs with
  | nil =>
   intro s tv hs
   have q:=k7 T (k+7) h hs.le
   simp? [fZ,bh,UL,q]
   cases bw rs s<;>simp? [az,bH,Ui,bh]
  | cons x xs ih =>
   intro s tv hs
   have q:=k7 T (k+7) h hs.le
   rw[dh]
   simp? [bh,Um,q]
   cases e:rs[s.row]? with
   | none =>
    have r1:bw rs s=true:=by unfold bw;rw[e]
    simp? [r1,yM]
   | some r =>
    cases r1:bw rs s with
    | true=>simp? [r1,yM]
    | false =>
     have hm:=hr r (Uq e)
     have ix:=kC (h:=h) (hV e)
     have be:=Bg T k h hL hs hm e
     have i0:aw (az s) (.int 0) h= .ok (.int s.row) h:=rfl
     have ix':aw (bH rs) (.int s.row) h= .ok (br r) h:=ix
     simp? [r1,i0,ix',be,bS,ih _ _ (jQ hs hm e)]
 rw[run_eq T.Co rfl];have ro:=kN T (k+8) h hp;simp? [lS,vO,ro];have hh:=rest (aE 0 200) (aE 0 200) s s none hs;have len:(aE 0 200).length=200:=rfl;rw[len] at hh;exact(congrArg (fin h) hh).trans (by rw[jx,nF])
end
section
variable{pg:Tb}(T:cb pg)
include T
theorem qO(k:Nat)(h:PH){L:List Str}(hL:L.length<=20){p:PV}{j:Int}{rs:List Rw}(hp:mN p j rs)(hr: ∀ r∈rs,eU L rs.length r):run pg (k+11) "first_seat" [p,.int j] h= .ok (az (bh rs 200 ⟨0,[],[]⟩)) h:=by
 have:=ic T k h hL hp hr (s:=⟨0,[],[]⟩) ⟨.nil,Vd _⟩;rw[run_eq T.tj rfl];have e:PV.tup [.int 0,.tup [],.tup []]=az ⟨0,[],[]⟩:=rfl;simp? [fG,lB,e,this]
end
noncomputable def Rw.fU:Rw->Option Str
 | .get x _=>some x | .fetch x _=>some x | .clock x=>some x | .lot x _=>some x | .hear x _=>some x
 | _=>none
noncomputable def Rw.sum:Rw->Option Sm
 | .let_ _ e=>some e | .leap _ e=>some e | .put _ e=>some e | .send _ e=>some e | .say _ e=>some e
 | _=>none
theorem eU.sum{L:List Str}{n:Nat}{r:Rw}(h:eU L n r){e:Sm}(q:r.sum=some e):jC e:=by
 cases r<;>cases q
 . exact h.2
 . exact h.2.2
 . exact h
 . exact h
 . exact h
noncomputable def PV.num:PV->Int
 | .int i=>i
 | _=>0
noncomputable def after(s:aF)(v:PV):Rw->aF
 | .get x _=>⟨s.row+1,lay s.ps x (PV.num v),s.held⟩
 | .fetch x _=>⟨s.row+1,lay s.ps x (PV.num v),s.held⟩
 | .clock x=>⟨s.row+1,lay s.ps x (PV.num v),s.held⟩
 | .lot x _=>⟨s.row+1,lay s.ps x (PV.num v),s.held⟩
 | .hear x _=>⟨s.row+1,lay s.ps x (PV.num v),s.held⟩
 | .take l=>⟨s.row+1,s.ps,cv (s.held++[l])⟩
 | .free l=>⟨s.row+1,s.ps,s.held.filter λz=> !decide (z=l)⟩
 | _=>⟨s.row+1,s.ps,s.held⟩
noncomputable def bR(s:aF):Rw->PV
 | .let_ _ e=> .tup [.str "let",.str "",.int (e.val (fP s.ps))]
 | .leap k e=> .tup [.str "leap",.int k,.int (e.val (fP s.ps))]
 | .take l=> .tup [.str "take",.str l,.non]
 | .free l=> .tup [.str "free",.str l,.non]
 | .get _ b=> .tup [.str "get",.str b,.non]
 | .put b e=> .tup [.str "put",.str b,.int (e.val (fP s.ps))]
 | .send l e=> .tup [.str "send",.str l,.int (e.val (fP s.ps))]
 | .fetch _ l=> .tup [.str "fetch",.str l,.non]
 | .say d e=> .tup [.str "say",.str d,.int (e.val (fP s.ps))]
 | .clock _=> .tup [.str "clock",.str "",.non]
 | .lot _ n=> .tup [.str "lot",.str "",.int n]
 | .hear _ d=> .tup [.str "hear",.str d,.non]
noncomputable def qh(rs:List Rw)(s:aF):PV:=match rs[s.row]? with
 | none=> .non
 | some r=>bR s r
theorem cF: ∀ ss:List Str,fe (ss.map PV.str)=some ss
 | []=>rfl
 | x::r=>by rw[Ul,fe,cF r];rfl
theorem xV{h:PH}{ss:List Str}(hl:ss.length < 64):bI [.tup (ss.map PV.str)] h= .ok (.ref h.length) (h++[.lst ((cv ss).map PV.str)]):=by
 simp only[bI,cF,if_pos hl]
theorem qu{xs:List PV}{x:PV}:gD (x::xs) (some 1) none=xs:=by rw[P3.lG (by decide)];rfl
noncomputable def Rw.parts:Rw->List PV
 | .let_ _ _=>[.str "pocket",.str "sum"] | .leap _ _=>[.str "target",.str "sum"] | .get _ _=>[.str "pocket",.str "box"] | .put _ _=>[.str "box",.str "sum"]
 | .take _=>[.str "lock"] | .free _=>[.str "lock"] | .send _ _=>[.str "lane",.str "sum"] | .fetch _ _=>[.str "pocket",.str "lane"] | .say _ _=>[.str "door",.str "sum"]
 | .clock _=>[.str "pocket"] | .lot _ _=>[.str "pocket",.str "chances"] | .hear _ _=>[.str "pocket",.str "door"]
theorem Fq(r:Rw):bT fg (.inr r.w)=some (.ktup r.parts):=by cases r<;>(simp only[Rw.w,Rw.parts];decide +kernel)
theorem iX(l:Str): ∀ ss:List Str,(ss.filterMap λz=>if z=l then none else some (PV.str z))=(ss.filter (λz=> !decide (z=l))).map PV.str
 | []=>rfl
 | q::r=>by
  by_cases z:q=l
  . rw[V4 (by simp[z]),Va (by simp[z]),iX l r]
  . rw[V5 (by rw[if_neg z]),U0 (by simp[z]),Ul,iX l r]
noncomputable def toG:MG:=(gT 2 (aG (gN 7) (aG (gN 8) eF)))
noncomputable def wU:MS:=(b6 (mQ (aa 7) (eS "sum")) (ak (ag "worth" (a2 (aa 8) (eX 2 1))) (gN 6)) (b6 (mQ (aa 7) (eS "chances")) (ak (aa 8) (gN 6)) (b6 (aM (ai iV (aa 7) (eS "pocket"))) (ak (aa 8) (gN 5)) cP)))
section
variable{c:CF}{h:PH}{a0 a1 b0 b1 a3 a4 a5 a6 a7 a8 x:Option PV}{y s1 w:PV}
theorem pG(q: ∀ g,aw s1 (.int 1) g= .ok b g)(z:c "worth" [y,b] h= .ok w h):bA toG wU c (.tup [.str "sum",y]) [a0,a1,some s1,a3,a4,a5,a6,a7,a8] h= .ok (.nx [a0,a1,some s1,a3,a4,a5,some w,some (.str "sum"),some y]) h:=by
 simp? [toG,wU,q,z]
theorem QK:bA toG wU c (.tup [.str "chances",y]) [a0,a1,b0,a3,a4,a5,a6,a7,a8] h= .ok (.nx [a0,a1,b0,a3,a4,a5,some y,some (.str "chances"),some y]) h:=by
 simp? [toG,wU]
theorem zd:bA toG wU c (.tup [.str "pocket",y]) [a0,a1,b0,a3,a4,a5,a6,a7,a8] h= .ok (.nx [a0,a1,b0,a3,a4,a5,a6,some (.str "pocket"),some y]) h:=by
 simp? [toG,wU]
theorem oN{p:Str}(q: ¬ p= "sum" /\ ¬ p= "chances" /\ ¬ p= "pocket"):bA toG wU c (.tup [.str p,y]) [a0,a1,b0,a3,a4,a5,a6,a7,a8] h= .ok (.nx [a0,a1,b0,a3,a4,some y,a6,some (.str p),some y]) h:=by
 simp? [toG,wU,q.1,q.2.1,q.2.2]
end
theorem ES{c:CF}{h:PH}(s:aF)(r:Rw)(w: ∀ e:Sm,r.sum=some e->c "worth" [hZ e,uC s.ps] h= .ok (.int (e.val (fP s.ps))) h)(xs:List PV)(a0 a1 a3 a4:Option PV) :
  ∃(t v:PV)(u7 u8:Option PV),bR s r= .tup [.str r.w,t,v]/\bJ ⟨none,xs⟩ (bA toG wU c) ((r.parts.zip r.ps).map λp=> .tup [p.1,p.2]) [a0,a1,some (az s),a3,a4,some (.str ""),some .non,none,none] h= .ok (.nx [a0,a1,some (az s),a3,a4,some t,some v,u7,u8]) h:=by
 have i1: ∀ g,aw (az s) (.int 1) g= .ok (uC s.ps) g:=λg=>rfl;have lp1: ∀{x:PV}{e e1:ao},bA toG wU c x e h= .ok (.nx e1) h->bJ ⟨none,xs⟩ (bA toG wU c) [x] e h= .ok (.nx e1) h:=λq=>by rw[dh,q,cB,bS,fZ]
 have lp2: ∀{x y:PV}{e e1 e2:ao},bA toG wU c x e h= .ok (.nx e1) h->bA toG wU c y e1 h= .ok (.nx e2) h->bJ ⟨none,xs⟩ (bA toG wU c) [x,y] e h= .ok (.nx e2) h:=λq q2=>by rw[dh,q,cB,bS,dh,q2,cB,bS,fZ]
 cases r with
 | let_ x e=>exact⟨_,_,_,_,rfl,lp2 zd (pG i1 (w e rfl))⟩
 | leap x e=>exact⟨_,_,_,_,rfl,lp2 (oN (by decide +kernel)) (pG i1 (w e rfl))⟩
 | put x e=>exact⟨_,_,_,_,rfl,lp2 (oN (by decide +kernel)) (pG i1 (w e rfl))⟩
 | send x e=>exact⟨_,_,_,_,rfl,lp2 (oN (by decide +kernel)) (pG i1 (w e rfl))⟩
 | say x e=>exact⟨_,_,_,_,rfl,lp2 (oN (by decide +kernel)) (pG i1 (w e rfl))⟩
 | take x=>exact⟨_,_,_,_,rfl,lp1 (oN (by decide +kernel))⟩
 | free x=>exact⟨_,_,_,_,rfl,lp1 (oN (by decide +kernel))⟩
 | clock x=>exact⟨_,_,_,_,rfl,lp1 zd⟩
 | lot x n=>exact⟨_,_,_,_,rfl,lp2 zd QK⟩
 | _=>exact⟨_,_,_,_,rfl,lp2 zd (oN (by decide +kernel))⟩
theorem rw_0(r:Rw)(g:PH):aw (br r) (.int 0) g= .ok (.str r.w) g:=sZ
theorem rw_pk{r:Rw}{x:Str}(h:r.fU=some x)(g:PH):aw (br r) (.int 1) g= .ok (.str x) g:=by cases r<;>cases h<;>exact jX
theorem eU.pk {L:List Str} {n:Nat} {r:Rw} (h:eU L n r) {x:Str} (q:r.fU=some x):x∈L:=by
 cases r<;>cases q<;>first | exact h | exact h.1
theorem jq {s:aF} {v:PV} {r:Rw} {x:Str} (h:r.fU=some x):after s v r=⟨s.row+1,lay s.ps x (PV.num v),s.held⟩:=by cases r<;>cases h<;>rfl
theorem Oy {r:Rw} {x:Str} (h:r.fU=some x):r.w∈(["get", "fetch", "clock", "lot", "hear"]:List Str)∧ ¬ r.w= "take" /\ ¬ r.w= "free" :=by cases r<;>cases h<;>(simp only [Rw.w];decide +kernel)
theorem rw_cls (r:Rw):(∃ x,r.fU=some x)∨(∃ l,r= .take l)∨(∃ l,r= .free l)∨((¬ r.w∈(["get", "fetch", "clock", "lot", "hear"]:List Str)∧ ¬ r.w= "take" /\ ¬ r.w= "free")∧ ∀ s v,after s v r=⟨s.row+1,s.ps,s.held⟩):=by
 cases r with
 | take l=>exact .inr (.inl ⟨l,rfl⟩)
 | free l=>exact .inr (.inr (.inl ⟨l,rfl⟩))
 | get x _=>exact .inl ⟨x,rfl⟩
 | fetch x _=>exact .inl ⟨x,rfl⟩
 | clock x=>exact .inl ⟨x,rfl⟩
 | lot x _=>exact .inl ⟨x,rfl⟩
 | hear x _=>exact .inl ⟨x,rfl⟩
 | _=>exact .inr (.inr (.inr ⟨by simp only[Rw.w];decide +kernel,λ_ _=>rfl⟩))
section
variable{pg:Tb}(T:cb pg)
include T
theorem nM(k:Nat)(h:PH){L:List Str}(hL:L.length<=20){p:PV}{j:Int}{rs:List Rw}(hp:mN p j rs)(hr: ∀ r∈rs,eU L rs.length r){s:aF}(hs:dq L rs s):run pg (k+10) "touch_of" [p,.int j,az s] h= .ok (qh rs s) h:=by
 have nd:=hs.pk.nd;have hm: ∀ q∈s.ps,1<=q.2/\q.2<=999:=λq m=>(hs.pk.mem q m).2;have hl:=hs.pk.len;have w: ∀ e:Sm,jC e->run pg (k+9) "worth" [hZ e,uC s.ps] h= .ok (.int (e.val (fP s.ps))) h:=λe he=>iY T h nd hm (by omega) e (k+8) he.1 (by have:=he.2;omega);have ro:=kN T (k+8) h hp;have ro':run pg (k+9) "rows_of" [p,.int j] h= .ok (.tup (rs.map br)) h:=ro;rw[run_eq T.yj rfl];cases e:rs[s.row]? with
 | none =>
  have:s.row=rs.length:=by have:=VE.mp e;have:=hs.le;omega
  have t1:qh rs s= .non:=by unfold qh;rw[e]
  simp? [fS,kl,az,t1,this,ro',Ui]
 | some r =>
  have hlt:s.row < rs.length:=(Uh.mp e).1
  have ne: ¬ (s.row:Int)=(rs.length:Int):=by omega
  have ix:=kC (h:=h) (hV e)
  have hrr:=hr r (Uq e)
  have t1:qh rs s=bR s r:=by unfold qh;rw[e]
  rw[t1]
  have w': ∀ e:Sm,r.sum=some e->run pg (k+9) "worth" [hZ e,uC s.ps] h= .ok (.int (e.val (fP s.ps))) h:=λe q=>w e (hrr.sum q)
  obtain⟨t,v,u7,u8,et,lp⟩:=ES (h:=h) s r w' ((r.parts.zip r.ps).map λp=> .tup [p.1,p.2]) (some p) (some (.int j)) (some (.tup (rs.map br))) (some (br r))
  have r_0:=λg=>rw_0 r g
  have i0: ∀ g,aw (az s) (.int 0) g= .ok (.int s.row) g:=λg=>rfl
  have sl: ∀ g,Hg (br r) (some 1) none g= .ok (.tup r.ps) g:=λg=>by unfold br;rw[Ot,qu]
  have at_r:aw (.tup (rs.map br)) (.int s.row) h= .ok (br r) h:=ix
  rw[et]
  unfold toG wU at lp
  simp? [fS,kl,i0,ro',ne,at_r,r_0,sl,Fq,lp,Ui]
theorem oQ(k:Nat)(h:PH){L:List Str}(hL:L.length<=20){p:PV}{j:Int}{rs:List Rw}(hp:mN p j rs)(hr: ∀ r∈rs,eU L rs.length r){s:aF}(hs:dq L rs s)(hh:s.held.length<=60){r:Rw}(e:rs[s.row]?=some r){v:PV}(hv: ∀ x,r.fU=some x-> ∃ i:Int,v= .int i/\0<=i/\i<=999):run pg (k+11) "seat_behind" [p,.int j,az s,v] h= .ok (az (bh rs 200 (after s v r))) h:=by
 have ro:=kN T (k+9) h hp;have ro':run pg (k+10) "rows_of" [p,.int j] h= .ok (.tup (rs.map br)) h:=ro;have hlt:s.row < rs.length:=(Uh.mp e).1;have ix:=kC (h:=h) (hV e);have hrr:=hr r (Uq e);have ink: ∀ a:Str,iW (.str a) (.ktup [(.str "get"),(.str "fetch"),(.str "clock"),(.str "lot"),(.str "hear")]) h= .ok (.bl (decide (a∈(["get", "fetch", "clock", "lot", "hear"]:List Str)))) h:=λa=>in_K (ss:=["get", "fetch", "clock", "lot", "hear"]);rw [run_eq T.qX rfl];have r0:run pg (k+10) "rested" [p,.int j,.tup [.int ((s.row:Int)+1),uC s.ps,ki s.held]] h= .ok (az (bh rs 200 ⟨s.row+1,s.ps,s.held⟩)) h:=ic T k h hL hp hr (s:=⟨s.row+1,s.ps,s.held⟩) ⟨hs.pk,hlt⟩;have r_0:=λg=>rw_0 r g;have at_r:aw (.tup (rs.map br)) (.int s.row) h= .ok (br r) h:=ix;rcases rw_cls r with⟨x,hx⟩ | ⟨l,rfl⟩ | ⟨l,rfl⟩ | ⟨⟨n5,nt,nf⟩,af⟩
 . obtain⟨i,rfl,h0,h9⟩:=hv x hx;have li:=yq hs.pk (hrr.pk hx) h0 h9;have l1:=yD T (k+9) h hs.pk.nd x i (UO li.len hL) (by have:=hs.pk.len;omega);have r1:run pg (k+10) "rested" [p,.int j,.tup [.int ((s.row:Int)+1),uC (lay s.ps x i),ki s.held]] h=_:=ic T k h hL hp hr (s:=⟨s.row+1,lay s.ps x i,s.held⟩) ⟨li,hlt⟩;have n5:=(Oy hx).1;have x1:=λg=>rw_pk hx g;rw[jq hx];simp? [ck,dB,az,ro',at_r,r_0,x1,ink,n5,l1,r1,PV.num]
 . have r1:=ic T k (h++[.lst ((cv (s.held++[l])).map PV.str)]) hL hp hr (s:=⟨s.row+1,s.ps,cv (s.held++[l])⟩) ⟨hs.pk,hlt⟩;have r1':run pg (k+10) "rested" [p,.int j,.tup [.int ((s.row:Int)+1),uC s.ps,.tup ((cv (s.held++[l])).map PV.str)]] (h++[.lst ((cv (s.held++[l])).map PV.str)])=_:=r1;have s1:=xV (h:=h) (ss:=s.held++[l]) (by simp;omega);rw[Vh] at s1;have hl2:(s.held.map PV.str).length+1<=16777216:=by simp;omega
   have s1':bI [.tup (s.held.map PV.str++[.str l])] h= .ok (.ref h.length) (h++[.lst ((cv (s.held++[l])).map PV.str)]):=s1;simp? [ck,dB,az,ki,ro',ix,br,Rw.w,Rw.ps,ink,Uy,U2,or_false,or_true,true_or,false_or,after,Ui,s1',r1'];exact cj (kP _)
 . have e1: ∀ e:ao,e=[some p,some (.int j),some (az s),some v,some (br (.free l)),some (uC s.ps),some (ki s.held)]->fH ⟨none,s.held.map PV.str⟩ (aQ 1 (gN 7) (aM (ai iV (aa 7) (eX 4 1))) (aa 7) (run pg (k+10)) e) (s.held.map PV.str) [] h= .ok ((s.held.filter (λz=> !decide (z=l))).map PV.str) h:=by
    rintro _ rfl;rw[<- iX];refine(fE rfl s.held [] (λq m=>?_) (by simp;omega)).trans (by rw[UR]);simp? [br,Rw.w,Rw.ps];by_cases z:q=l<;>simp[z]
   have e1':=e1 _ rfl;have r1:=ic T k (h++[.lst ((s.held.filter (λz=> !decide (z=l))).map PV.str)]) hL hp hr (s:=⟨s.row+1,s.ps,s.held.filter (λz=> !decide (z=l))⟩) ⟨hs.pk,hlt⟩;have r1':run pg (k+10) "rested" [p,.int j,.tup [.int ((s.row:Int)+1),uC s.ps,.tup ((s.held.filter (λz=> !decide (z=l))).map PV.str)]] (h++[.lst ((s.held.filter (λz=> !decide (z=l))).map PV.str)])=_:=r1;simp only[br,az,ki,Rw.w,Rw.ps] at e1';simp? [ck,dB,az,ki,ro',ix,br,Rw.w,Rw.ps,ink,Uy,U2,or_false,or_true,true_or,false_or,after,Ui,e1',r1'];exact cj (kP _)
 . rw[af];simp? [ck,dB,az,ro',at_r,r_0,ink,n5,nt,nf,r0]
end
structure oI(L:List Str)(D:Pk):Prop where
 nd:(D.map (·.1)).Nodup
 mem: ∀ q∈D,q.1∈L/\0<=q.2/\q.2<=999
noncomputable def putD(D:Pk)(x:Str)(v:Int):Pk:=if x∈D.map (·.1) then D.map (λq=>if q.1=x then(q.1,v) else q) else D++[(x,v)]
theorem xn(D:Pk)(x:Str)(v:Int):(D.map (λq=>if q.1=x then(q.1,v) else q)).map (·.1)=D.map (·.1):=by
 rw[Ve];refine WL λq _=>?_;show(if q.1=x then(q.1,v) else q).1=q.1;split<;>rfl
theorem jJ(D:Pk)(x:Str)(v:Int):cM (cQ D) (.inr x) (.int v)=cQ (putD D x v):=by
 unfold cM putD;have e:((cQ D).any λkv=>decide (kv.1= .inr x))=decide (x∈D.map (·.1)):=by
  rw[Xx];simp only[abq,decide_eq_true_eq,cQ,UZ];constructor
  . rintro ⟨kv,⟨q,m,rfl⟩,e⟩;exact⟨q,m,aab e⟩
  . rintro ⟨q,m,rfl⟩;exact⟨_,⟨q,m,rfl⟩,rfl⟩
 rw[e];by_cases h:x∈D.map (·.1)
 . rw[if_pos (by simpa only[decide_eq_true_eq] using h),if_pos h];unfold cQ;rw[Ve];rw[Ve];refine WL λq _=>?_;show(if (VZ q.1:Key)=VZ x then((VZ q.1:Key),PV.int v) else(VZ q.1,PV.int q.2))=_;by_cases z:q.1=x
   . rw[if_pos (by rw[z])];simp[z]
   . rw[if_neg (λe=>z (aab e))];simp[z]
 . rw[if_neg (by simpa only[decide_eq_true_eq] using h),if_neg h];unfold cQ;rw[Vh];rfl
theorem yr(x:Str)(v:Int)(y:Str): ∀ D:Pk,x∈D.map (·.1)->fP (D.map (λq=>if q.1=x then(q.1,v) else q)) y=if y=x then v else fP D y
 | q::r,h=>by
  rw[Ul,fP,fP];by_cases z:q.1=x
  . rw[if_pos z];by_cases w:y=x
    . subst w;rw[if_pos z,if_pos rfl]
    . rw[if_neg (λe=>w (e.symm.trans z)),if_neg w,if_neg (λe=>w (e.symm.trans z))];by_cases hr:x∈r.map (·.1)
      . rw[yr x v y r hr,if_neg w]
      . congr 1;refine(WL λp m=>?_).trans (List.map_id _);show(if p.1=x then(p.1,v) else p)=p;rw[if_neg (λe=>hr (UZ.mpr ⟨p,m,e⟩))]
  . rw[if_neg z];have hr:x∈r.map (·.1):=by
     rcases Uy.mp h with e | m
     . exact absurd e.symm z
     . exact m
    rw[yr x v y r hr];by_cases w:q.1=y
    . rw[if_pos w,if_pos w,if_neg (λe=>z (w.trans e))]
    . rw[if_neg w,if_neg w]
theorem BE(x:Str)(v:Int)(y:Str): ∀ D:Pk,x ∉ D.map (·.1)->fP (D++[(x,v)]) y=if y=x then v else fP D y
 | [],_=>by
  rw[UR,fP,fP];by_cases w:y=x
  . rw[if_pos w,if_pos w.symm]
  . rw[if_neg w,if_neg (λe=>w e.symm)];rfl
 | q::r,h=>by
  rw[Ul,Uy,not_or] at h;rw[Vq,fP,fP,BE x v y r h.2];by_cases w:q.1=y
  . rw[if_pos w,if_pos w,if_neg (λe=>h.1 (e.symm.trans w.symm))]
  . rw[if_neg w,if_neg w]
theorem oq(D:Pk)(x:Str)(v:Int)(y:Str):fP (putD D x v) y=if y=x then v else fP D y:=by
 unfold putD;split
 . rename_i h;exact yr x v y D h
 . rename_i h;exact BE x v y D h
theorem oD{L:List Str}{D:Pk}{x:Str}{v:Int}(h:oI L D)(hx:x∈L)(h0:0<=v)(h9:v<=999):oI L (putD D x v):=by
 unfold putD;split
 . refine⟨by rw[xn];exact h.nd,λq m=>?_⟩;obtain⟨p,mp,rfl⟩:=UZ.mp m;by_cases z:p.1=x
   . rw[if_pos z];exact⟨(h.mem p mp).1,h0,h9⟩
   . rw[if_neg z];exact h.mem p mp
 . rename_i hn;refine⟨?_,λq m=>?_⟩
   . rw[Vh];refine Xb.mpr ⟨h.nd,by simp,λa ha b hb e=>?_⟩;have hb':b=x:=by simpa using hb
     exact hn (by rw[<- hb',<- e];exact ha)
   . rcases Vl.mp m with m | m
     . exact h.mem q m
     . rw[Vc.mp m];exact⟨hx,h0,h9⟩
theorem oI.rR{L:List Str}{D:Pk}(h:oI L D): ∀ x,0<=fP D x/\fP D x<=999:=λx=>by
 by_cases hx:x∈D.map (·.1)
 . obtain⟨q,m,rfl⟩:=UZ.mp hx;rw[mS h.nd q m];exact(h.mem q m).2
 . rw[kD hx];decide
theorem Ie{t:ao->PH->RV Bool}{b:ao->PH->RV Fl}{f:Nat}{e:ao}{h h1:PH}(ht:t e h= .ok false h1):dE t b (f+1) e h= .ok (.nx e) h1:=by
 rw[dE,ht,cH];rfl
theorem Qh{t:ao->PH->RV Bool}{b:ao->PH->RV Fl}{f:Nat}{e e1:ao}{h h1 h2:PH}(ht:t e h= .ok true h1)(hb:b e h1= .ok (.nx e1) h2):dE t b (f+1) e h=dE t b f e1 h2:=by
 rw[dE,ht,cH,if_pos rfl,hb,cH]
theorem oI.len{L:List Str}{D:Pk}(h:oI L D):D.length<=L.length:=by
 have:=WS h.nd (l₂ :=L) (λx hx=>by obtain⟨q,hq,rfl⟩:=UZ.mp hx;exact(h.mem q hq).1);simpa using this
theorem nN(s:aF)(r:Rw):(behind s r).held=s.held:=by
 cases r with
 | leap j e0=>show(if e0.val (fP s.ps)=0 then(⟨s.row+1,s.ps,s.held⟩:aF) else⟨j.toNat,s.ps,s.held⟩).held=s.held;split<;>rfl
 | _=>rfl
theorem ph{rs:List Rw}{s:aF}(h:bw rs s=false): ∃ r,rs[s.row]?=some r/\own s.held r=true:=by
 unfold bw at h;cases e:rs[s.row]? with
 | none=>rw[e] at h;exact nomatch h
 | some r=>rw[e] at h;exact⟨r,rfl,by simpa using h⟩
theorem aT{a b:MS}{c:CF}{e e1:ao}{h h1:PH}(q:a c e h= .ok (.nx e1) h1):ae a b c e h=b c e1 h1:=by rw[ED,q,cB,yZ]
theorem Jh{t:MT}{b:MS}{c:CF}{e:ao}{h:PH}:wQ t b c e h=dE (t c) (b c) 100000 e h:=(rfl)
theorem cm(ss:List Str):(cv ss).Perm ss:=Xn ss _
theorem mE{ss:List Str}(nd:ss.Nodup):(cv ss).Pairwise iT:=by
 have h1:(cv ss).Pairwise λa b=>oC a b=true:=WR hX (λa b=>by simpa using jL a b) ss;have h2:(cv ss).Pairwise (· ≠ ·):=(cm ss).nodup_iff.mpr nd
 refine h1.imp₂ (λa b z1 z2=>?_) h2;rcases mP z2 with z | z
 . exact z
 . unfold oC at z1;simp[z] at z1
theorem CM{D:Pk}{f:Key × PV->PV}(hf: ∀ q:Str × Int,f (.inr q.1,.int q.2)= .str q.1):(cQ D).map f=(D.map (·.1)).map PV.str:=by
 unfold cQ;rw[Ve,Ve];exact WL λq _=>hf q
theorem H9{h:PH}{n:Nat}{D:Pk}(e:h[n]?=some (.dct (cQ D)))(hl:D.length < 64):bI [.ref n] h= .ok (.ref h.length) (h++[.lst ((cv (D.map (·.1))).map PV.str)]):=by
 have i0:itemsOf h (.ref n)=none:=by simp[itemsOf,cV,e]
 show fF [.ref n] h=_;unfold fF;simp only[i0,e];rw[CM,P3.cF]
 . simp only[Ui,if_pos hl]
 . exact λq=>rfl
theorem Il{D:Pk}{x:Str}: ∀{D:Pk},x∈D.map (·.1)->bT (cQ D) (.inr x)=some (.int (fP D x))
 | q::r,m=>by
  unfold fP cQ;rw[Ul];by_cases e:q.1=x
  . rw[if_pos e,e,sy]
  . rw[if_neg e,wq (by simpa using e)];rcases Uy.mp m with m | m
    . exact absurd m.symm e
    . exact Il (D:=D) m
theorem cW{rs:List Rw}: ∀(n:Nat)(s:aF),(bh rs n s).held=s.held
 | 0,s=>by unfold bh;split<;>rfl
 | n+1,s=>by
  unfold bh;split
  . rfl
  . split
    . rfl
    . rw[cW n,nN]
noncomputable def tell(D:Pk)(ns:List Str):Pk:=(ns.filter λx=>decide (0 < fP D x)).map λx=>(x,fP D x)
theorem tF(D:Pk): ∀ ns:List Str,(ns.filterMap λx=>if 0 < fP D x then some (cO (x,fP D x)) else none)=(tell D ns).map cO
 | []=>rfl
 | x::r=>by
  unfold tell;by_cases z:0 < fP D x
  . rw[V5 (by rw[if_pos z]),U0 (by simpa using z),Ul,Ul,tF D r];rfl
  . rw[V4 (by rw[if_neg z]),Va (by simpa using z),tF D r];rfl
theorem pK(D:Pk)(ns:List Str):(tell D ns).map (·.1)=ns.filter λx=>decide (0 < fP D x):=by
 unfold tell;rw[Ve];exact List.map_id _
theorem Hq{L:List Str}{D ps:Pk}(h:oI L D)(hp:ky L ps)(e: ∀ x,fP D x=fP ps x):tell D (cv (D.map (·.1)))=ps:=by
 have hin:ky L (tell D (cv (D.map (·.1)))):=by
  refine⟨?_,λq m=>?_⟩
  . rw[pK];exact(mE h.nd).sublist Xo
  . unfold tell at m;obtain⟨x,mx,rfl⟩:=UZ.mp m;obtain⟨m1,m2⟩:=VL.mp mx;obtain⟨q,mq,rfl⟩:=UZ.mp ((cm _).mem_iff.mp m1);have:=h.rR q.1;have m3:0 < fP D q.1:=by simpa using m2
    exact⟨(h.mem q mq).1,by show 1<=fP D q.1;omega,by show fP D q.1<=999;omega⟩
 refine Mg hin hp λx=>?_;rw[<- e];by_cases hx:x∈(tell D (cv (D.map (·.1)))).map (·.1)
 . obtain⟨q,m,rfl⟩:=UZ.mp hx;rw[mS hin.nd q m];unfold tell at m;obtain⟨y,_,rfl⟩:=UZ.mp m;rfl
 . rw[kD hx];rw[pK] at hx;have:=h.rR x;by_cases hy:x∈D.map (·.1)
   . have: ¬ 0 < fP D x:=λz=>hx (VL.mpr ⟨(cm _).mem_iff.mpr hy,by simpa using z⟩);omega
   . rw[kD hy]
noncomputable def qH(ns:List Int):PO:= .kR (ns.map PV.int)
noncomputable def aU(q:Int × Int × Int):PO:= .lst [.int q.1,.int q.2.1,.int q.2.2]
theorem Lz{q:Int × Int × Int}{n:Nat}:(aU q).iU n=true:=rfl
section
variable{h:PH}{n:Nat}{x y z v:PV}{fr:PO}{q q':Int × Int × Int}{g g':PH}
theorem Rh:ya n (.int 0) v h (some (.lst [x,y,z]))= .ok () (h.set n (.lst [v,y,z])):=rfl
theorem IZ:ya n (.int 2) v h (some (.lst [x,y,z]))= .ok () (h.set n (.lst [x,y,v])):=rfl
theorem dX(hv:v.flat=true):P3.settle (fr::aU q::g) v (fr::aU q'::(g++g'))= .ok v (fr::aU q'::g) :=
 kA (h:=fr::aU q::g) (g:=g') (i:=1) (o:=aU q) (o':=aU q') hv rfl rfl Lz
theorem lh:P3.settle (fr::aU q::g) v (fr::aU q'::g)= .ok v (fr::aU q'::g):=nK (h:=fr::aU q::g) (i:=1) (o:=aU q) (o':=aU q')
end
theorem LC{xs:List PV}{c:Int}(c0:0<=c)(c1:c < xs.length): ∃ x∈xs,dS xs c=some x:=by
 obtain⟨n,rfl⟩:=Vw c0;exact⟨xs[n]'(by omega),VC _,P3.cZ rfl (Ur (by omega))⟩
theorem nj{ss:List Str}{v:Int}(h0:0<=v)(h1:v < ss.length): ∃ x∈ss,dS (ss.map PV.str) v=some (.str x):=by
 obtain⟨n,en⟩:=Vw h0;subst en;have hn:n < ss.length:=by omega
 exact⟨ss[n],VC hn,P3.cZ rfl (by rw[UA,Ur hn];rfl)⟩
section
variable{pg:Tb}(T:cb pg)
include T
theorem cC(j:Nat)(fr:PO)(q:Int × Int × Int)(m:Int)(m0:0 < m)(m9:m<=1000000): ∃(v:Int)(q':Int × Int × Int),0<=v/\v < m/\ ∀ g,run pg (j+1) "_law_take" [.ref 1,.int m] (fr::aU q::g)= .ok (.int v) (fr::aU q'::g):=by
 obtain⟨a,b,c⟩:=q;have b0: ∀{q q':Int × Int × Int}{g:PH}{v:PV},P3.settle (fr::aU q::g) v (fr::aU q'::g)= .ok v (fr::aU q'::g):=lh;simp only[aU] at b0 ⊢;by_cases z:0 < a
 . refine⟨a % m,(a / m,b,c+1),W3 _ (by omega),Wt _ m0,λg=>?_⟩;rw[run_eq T.nI rfl];have mm:0 < m/\m < 1073741824:=by omega
   simp? (disch:=first | omega | exact mm) only[eZ,jg,Rh,IZ,q9,x8,z,mM];exact b0 (q:=(a,b,c)) (q':=(a / m,b,c+1))
 . let x:Int:=(b % 2147483647+31*(c+1))*48271 % 2147483629
   let y:Int:=(x / 11+17*(c+1))*69621 % 2147483587
   refine⟨y / 7 % m,(a,b,c+1),W3 _ (by omega),Wt _ m0,λg=>?_⟩;rw[run_eq T.nI rfl];have m1: ∀(i:Int) h,dA (.int i) (.int 48271) h= .ok (.int (i*48271)) h:=λi h=>sQ (by omega);have m2: ∀(i:Int) h,dA (.int i) (.int 69621) h= .ok (.int (i*69621)) h:=λi h=>sQ (by omega);simp? [eZ,jg,IZ,q9,xC,x8,z,m1,m2,mM];exact b0 (q:=(a,b,c)) (q':=(a,b,c+1))
theorem Ms(j:Nat)(ns:List Int)(hn:ns.length<=63): ∃ q,run pg (j+1) "_law_box" [.ref 0,.int 0] [qH ns]= .ok (.ref 1) [qH ns,aU q]:=by
 have ln:cD [.ref 0] [qH ns]= .ok (.int ns.length) [qH ns]:=by rw[OZ (xs:=ns.map PV.int) rfl,Ui]
 have t18:(10:Int) ^ YB 18=1000000000000000000:=by decide +kernel
 have mB: ∀(i:Int)(p:Bool) h,dA (.int i) (.int (if p=true then 1 else 0)) h= .ok (.int (i*if p=true then 1 else 0)) h:=λi p h=>sQ (by split<;>omega);by_cases z:0 < (ns.length:Int)
 . obtain⟨x,xm,ex⟩:=LC (xs:=ns.map PV.int) (c:=0 % (ns.length:Int)) (W3 _ (by omega)) (by rw[Ui];exact Wt _ z);obtain⟨i,_,rfl⟩:=UZ.mp xm;have ix:aw (.ref 0) (.int (0 % (ns.length:Int))) [qH ns]= .ok (.int i) [qH ns]:=by rw[jk];show N4 _ _ (some (.kR _))=_;rw[P9,ex];rfl
   refine⟨((i+1009*(0 / (ns.length:Int)))*(if decide (1000000000000000000<=i+1009*(0 / (ns.length:Int)))=true then 1 else 0),i+1009*(0 / (ns.length:Int)),0),?_⟩;rw[run_eq T.qr rfl];simp? [gq,kL,ln,z,ix,mM,xU,tJ,mB,t18];exact cg rfl
 . refine⟨(0,0,0),?_⟩;rw[run_eq T.qr rfl];simp? [gq,kL,ln,z,mM,xU,tJ,mB,t18];exact cg rfl
end
theorem Fo{v:Int}(h0:0<=v)(h1:v < 5): ∃ o:Bo,dS [PV.str "add",.str "sub",.str "mul",.str "less",.str "same"] v=some (.str o.w):=by
 have:v=0\/v=1\/v=2\/v=3\/v=4:=by omega
 rcases this with rfl | rfl | rfl | rfl | rfl
 . exact⟨.add,rfl⟩
 . exact⟨.sub,rfl⟩
 . exact⟨.mul,rfl⟩
 . exact⟨.less,rfl⟩
 . exact⟨.same,rfl⟩
theorem FZ{v:Int}(h0:0<=v)(h1:v < 7): ∃ n:Int,0<=n/\n<=999/\dS [PV.int 0,.int 1,.int 2,.int 3,.int 7,.int 500,.int 999] v=some (.int n):=by
 have:v=0\/v=1\/v=2\/v=3\/v=4\/v=5\/v=6:=by omega
 rcases this with rfl | rfl | rfl | rfl | rfl | rfl | rfl<;>exact⟨_,by decide,by decide,rfl⟩
noncomputable def Sm.Pz(P:Str->Prop):Sm->Prop
 | .num _=>True
 | .of x=>P x
 | .un e=>e.Pz P
 | .bin _ a b=>a.Pz P/\b.Pz P
section
variable{pg:Tb}(T:cb pg)
include T
theorem xh(j:Nat)(fr:PO){np:Nat}{ps:List Str}(p0:0 < ps.length)(p9:ps.length<=1000): ∀(d:Nat)(q:Int × Int × Int)(g:PH),g[np]?=some (.lst (ps.map PV.str)) ->
  ∃(e:Sm)(q':Int × Int × Int),e.ok/\e.dp<=d+1/\e.Pz (· ∈ps)/\run pg (j+d+2) "_law_sum" [.ref 1,.ref (np+1+1),.int d] (fr::aU q::g)= .ok (hZ e) (fr::aU q'::g):=by
 have num: ∀(k:Nat)(d:Int)(q:Int × Int × Int)(g:PH)(w:Int),d=0\/w < 2-> ∃(e:Sm)(q':Int × Int × Int)(G:PH),e.ok/\e.dp=1/\e.Pz (· ∈ps)/\ ∀ rest:MS,∀ u:Option PV,
   ae (b6 (Iv (mQ (aa 2) (eI 0)) (aM (ai D6 (aa 3) (eI 2)))) (ay (au (ab (eS "num") (ab (ai aw (bN (ab (eI 0) (ab (eI 1) (ab (eI 2) (ab (eI 3) (a3 (eI 7) (eI 500) (eI 999))))))) (ag "_law_take" (a2 (aa 0) (eI 7)))) ah)))) cP) rest (run pg (k+1)) [some (.ref 1),some (.ref (np+1+1)),some (.int d),some (.int w),u] (fr::aU q::g)= .ok (.rt (hZ e)) (fr::aU q'::(g++G)):=λk d q g w hw=>by
  obtain⟨a,q',a0,a1,ea⟩:=cC T k fr q 7 (by decide) (by decide);obtain⟨n,n0,n1,en⟩:=FZ a0 a1;refine⟨.num n,q',[.lst [.int 0,.int 1,.int 2,.int 3,.int 7,.int 500,.int 999]],⟨n0,n1⟩,rfl,trivial,λrest u=>?_⟩;by_cases z:d=0
  . simp? [z,ea,en,hZ]
  . have z2:w < 2:=hw.resolve_left z;simp? [z,z2,ea,en,hZ]
 intro d
 induction d with
 | zero =>
  intro q g hp
  obtain⟨w,q1,w0,w1,ew⟩:=cC T j fr q 8 (by decide) (by decide)
  obtain⟨e,q',G,h1,h2,h3,h4⟩:=num j (((0:Nat):Int)) q1 g w (.inl rfl)
  refine⟨e,q',h1,by omega,h3,?_⟩
  rw[Nat.add_zero,run_eq T.gj rfl]
  simp? [cT,eK,ew,↓h4,dX (fj e)]
 | succ d ih =>
  intro q g hp
  have dd:((d+1:Nat):Int) - 1=(d:Int):=by omega
  have dn: ¬ ((d+1:Nat):Int)=0:=by omega
  have hlt:=aA hp
  obtain⟨w,q1,w0,w1,ew⟩:=cC T (j+d+1) fr q 8 (by decide) (by decide)
  rw[show j+(d+1)+2=(j+d+2)+1 by omega]
  by_cases c1:w < 2
  . obtain⟨e,q',G,h1,h2,h3,h4⟩:=num (j+d+1) ((d+1:Nat):Int) q1 g w (.inr c1);refine⟨e,q',h1,by omega,h3,?_⟩;rw[run_eq T.gj rfl];simp? [cT,eK,ew,↓h4,dX (fj e)]
  . by_cases c2:w < 5
    . obtain⟨a,q2,a0,a1,ea⟩:=cC T (j+d+1) fr q1 ps.length (by omega) (by omega);obtain⟨x,hx,ex⟩:=nj a0 a1;refine⟨.of x,q2,trivial,by simp[Sm.dp],hx,?_⟩;rw[run_eq T.gj rfl];simp? [cT,eK,ew,dn,c1,c2,hp,ea,ex,hZ,Ui];exact lh (v:=hZ (.of x))
    . by_cases c3:w=5
      . obtain⟨e,q2,h1,h2,h3,h4⟩:=ih q1 g hp;refine⟨.un e,q2,h1,by unfold Sm.dp;omega,h3,?_⟩;subst c3;rw[run_eq T.gj rfl];simp? [cT,eK,ew,dn,dd,h4];exact lh (v:=hZ (.un e))
      . let W:PH:=[.lst [.str "add",.str "sub",.str "mul",.str "less",.str "same"]]
        obtain⟨a,q2,a0,a1,ea⟩:=cC T (j+d+1) fr q1 5 (by decide) (by decide);obtain⟨o,eo⟩:=Fo a0 a1;have hp':(g++W)[np]?=some (.lst (ps.map PV.str)):=by rw[aq hlt];exact hp
        obtain⟨e,q3,h1,h2,h3,h4⟩:=ih q2 (g++W) hp';obtain⟨f,q4,i1,i2,i3,i4⟩:=ih q3 (g++W) hp';refine⟨.bin o e f,q4,⟨h1,i1⟩,by unfold Sm.dp;omega,⟨h3,i3⟩,?_⟩;rw[run_eq T.gj rfl];simp only[W] at h4 i4;simp? [cT,eK,ew,dn,dd,c1,c2,c3,ea,eo,h4,i4];exact dX (v:=hZ (.bin o e f)) (fj _)
end
noncomputable def tS(x:Str):Bool:=decide (x.cps.size<=20)&&x.cps.toList.all λc=>decide (c < 16 ^ 8)
mutual
def wz:PV->Bool
 | .non=>true
 | .int i=>decide (0<=i/\i<=1000000)
 | .str x=>tS x
 | .tup xs=>kU xs
 | _=>false
def kU:List PV->Bool
 | []=>true
 | x::r=>wz x&&kU r
end
mutual
def Fi:PV->Nat
 | .str x=>x.cps.size
 | .tup xs=>IH xs
 | _=>0
def IH:List PV->Nat
 | []=>0
 | x::r=>Fi x+1+IH r
end
mutual
def F8:PV->Nat
 | .tup xs=>vq xs+1
 | _=>0
def vq:List PV->Nat
 | []=>0
 | x::r=>max (F8 x) (vq r)
end
theorem vG{i:Int}(h0:0<=i)(h9:i<=1000000):(YQ i).shown.length<=13:=PyData.shown_int_le (by omega)
theorem Bt{i:Int}(h0:0<=i)(h9:i<=1000000):i.natAbs.log2 < 1920:=by
 by_cases z:i.natAbs=0
 . rw[z];decide
 . rw[Nat.log2_lt z];exact Ut (show i.natAbs < 2 ^ 20 by omega) (Nat.pow_le_pow_right (by decide) (by decide))
mutual
theorem wz.d: ∀(v:PV),wz v=true-> ∃ d:Ws,(∀ sub,jd sub v=some d)/\d.showable=true/\d.hasDict=false/\d.depth=F8 v/\d.bulk=Fi v/\Wu 13 d=true
 | .non,_=>⟨.none,λ_=>rfl,rfl,rfl,rfl,rfl,rfl⟩
 | .int i,h=>by
  rw[wz,decide_eq_true_eq] at h;exact⟨.int i,λ_=>rfl,by rw[Yn,decide_eq_true_eq];exact Bt h.1 h.2,rfl,rfl,rfl,by rw[Wu,decide_eq_true_eq];exact vG h.1 h.2⟩
 | .str x,h=>by
  rw[wz,tS,UD] at h;exact⟨.str x,λ_=>rfl,rfl,rfl,rfl,rfl,by rw[Wu];exact h.2⟩
 | .tup xs,h=>by
  rw[wz] at h;obtain⟨ds,e,h1,h2,h3,h4,h5⟩:=kU.d xs h;exact⟨.tuple ds,λsub=>by rw[jd,e];rfl,by rw[Yn];exact h1,by rw[aap];exact h2,by rw[abc,h3,F8],by rw[abC,h4,Fi],by rw[Wu];exact h5⟩
theorem kU.d: ∀(xs:List PV),kU xs=true-> ∃ ds:List Ws,(∀ sub,bU sub xs=some ds)/\YR ds=true/\Y7 ds=false/\W2 ds=vq xs/\aaq ds=IH xs/\XZ 13 ds=true
 | [],_=>⟨[],λ_=>rfl,rfl,rfl,rfl,rfl,rfl⟩
 | x::r,h=>by
  rw[kU,UD] at h;obtain⟨d,e,h1,h2,h3,h4,h5⟩:=wz.d x h.1;obtain⟨ds,e',i1,i2,i3,i4,i5⟩:=kU.d r h.2;exact ⟨d::ds,λsub=>by rw [bU,e,e'],by rw [YR,h1,i1];rfl,by rw [Y7,h2,i2];rfl,by rw [W2,h3,i3,vq],by rw [aaq,h4,i4,IH],by rw [XZ,h5,i5];rfl⟩
end
theorem Ia {ys : List PV} {ds : List Ws} (h1 : YR ds = true) (h2 : Y7 ds = false) (h3 : W2 ds <= 60) (h4 : aaq ds <= 1000000) (h5 : XZ 13 ds = true) : Av (.tuple ds) /\ Av (.list ds) :=
  ⟨⟨by rw [Yn]; exact h1, by rw [aap]; exact h2, by rw [abc]; omega, ZT (B := 13) (by decide) (by decide) (by rw [Wu]; exact h5) (by rw [abC]; omega)⟩,
   ⟨by rw [Yn]; exact h1, by rw [aap]; exact h2, by rw [abc]; omega, ZT (B := 13) (by decide) (by decide) (by rw [Wu]; exact h5) (by rw [abC]; omega)⟩⟩
theorem Fu {ys:List PV} (h:kU ys=true) (hd:vq ys<=60) (hb:IH ys<=1000000): ∃ x:Str,∀ g,fw [.tup ys] g= .ok (.str x) g:=by
 obtain ⟨ds,e,h1,h2,h3,h4,h5⟩:=kU.d ys h;refine ⟨(Yy ds).shown,λg=>?_⟩;have e2:dat 6 g (.tup ys)=some (.tuple ds):=by unfold dat;rw[jd,e];rfl
 unfold fw;simp only[e2];exact if_pos (Ia (ys:=ys) h1 h2 (by omega) (by omega) h5).1
theorem LL{x:Str}(h:tS x=true):x.cps.size<=20:=by rw[tS,UD,decide_eq_true_eq] at h;exact h.1
theorem oH{f:Nat->Option Ws}: ∀ ss:List Str,bU f (ss.map PV.str)=some (ss.map X8)
 | []=>rfl
 | x::r=>by rw[Ul,bU,oH r];rfl
theorem vN{h:PH}{n k:Nat}{ss:List Str}(e:h[n]?=some (.lst (ss.map PV.str))):dat (k+1) h (.ref n)=some (.list (ss.map X8)):=by
 unfold dat;simp only[jd,e,oH,WB]
theorem ne_nil{h:PH}{n m:Nat}{ss:List Str}(e1:h[n]?=some (.lst (ss.map PV.str)))(e2:h[m]?=some (.lst []))(ok: ∀ x∈ss,XW x=true):iV (.ref n) (.ref m) h= .ok (.bl (!decide (ss=[]))) h:=by
 have d1:=vN (k:=5) e1;have d2:=vN (k:=5) (ss:=[]) (n:=m) e2;have sc:kf (.ref n) (.ref m)=false:=rfl;have dp: ∀ xs:List Str,YS (.list (xs.map X8))=xs.all XW:=λxs=>by
  rw[YS,PyProof.Rows.canLayAll_strs']
 have al:alike (.ref n) (.ref m) h=some (decide (ss=[])):=by
  unfold alike;rw[sc,d1,d2];have c1:(Xe (ss.map X8)).canLay0=true:=by rw[dp];exact X5.mpr ok
  have c2:(Xe (([]:List Str).map X8)).canLay0=true:=by rw[dp];rfl
  have c3:min (Xe (ss.map X8)).depth (Xe (([]:List Str).map X8)).depth<=64:=UO (X4 _ _) (by decide);simp only[Wq,if_false,c1,c2,c3,and_self,if_true];cases ss with
  | nil=>rfl
  | cons x r=>rfl
 have nd:gF h (.ref n)=false:=by simp only[gF,e1]
 unfold iV;rw[al,nd];rfl
theorem c7{n:Nat}{xs:List PV}{h:PH}(e:h[n]?=some (.lst xs)):kQ.jt ⟨some n,xs⟩ h=true:=by
 unfold kQ.jt;simp only[e,true_or,decide_true]
noncomputable def Bq(s:List Str):Prop:=s.length<=20/\ ∀ x∈s,tS x=true/\XW x=true
noncomputable def uq(s0 s1 s2 s3:List Str)(x:Str):Prop:=x= "clock" \/x= "lot" \/(s0≠[]/\(x= "get" \/x= "put"))\/(s1≠[]/\(x= "take" \/x= "free"))\/(s2≠[]/\(x= "send" \/x= "fetch"))\/(s3≠[]/\(x= "say" \/x= "hear"))
structure An(J:PH)(nn:Nat)(s0 s1 s2 s3:List Str):Prop where
 at_: ∃ b0 b1 b2 b3:Nat,J[nn]?=some (.lst [.ref (b0+1+1),.ref (b1+1+1),.ref (b2+1+1),.ref (b3+1+1)])/\J[b0]?=some (.lst (s0.map PV.str))/\J[b1]?=some (.lst (s1.map PV.str))/\J[b2]?=some (.lst (s2.map PV.str))/\J[b3]?=some (.lst (s3.map PV.str))
 ok:Bq s0/\Bq s1/\Bq s2/\Bq s3
theorem An.app{J g:PH}{nn:Nat}{s0 s1 s2 s3:List Str}(h:An J nn s0 s1 s2 s3):An (J++g) nn s0 s1 s2 s3:=by
 obtain⟨b0,b1,b2,b3,e,e0,e1,e2,e3⟩:=h.at_;exact⟨⟨b0,b1,b2,b3,(aq (aA e)).trans e,(aq (aA e0)).trans e0,(aq (aA e1)).trans e1,(aq (aA e2)).trans e2,(aq (aA e3)).trans e3⟩,h.ok⟩
noncomputable def Rw.th:Rw->Option (Nat × Str)
 | .get _ b=>some (0,b) | .put b _=>some (0,b) | .take l=>some (1,l) | .free l=>some (1,l)
 | .send l _=>some (2,l) | .fetch _ l=>some (2,l) | .say d _=>some (3,d)
 | _=>none
noncomputable def Rw.nm:Rw->Option (Nat × Str)
 | .hear _ d=>some (3,d)
 | r=>r.th
theorem QV{r:Rw}{z:Nat × Str}(h:r.th=some z):r.nm=some z:=by cases r<;>first | exact h | exact nomatch h
noncomputable def LV(s0 s1 s2 s3:List Str):Nat->List Str
 | 0=>s0 | 1=>s1 | 2=>s2 | _=>s3
noncomputable def zE (s0 s1 s2 s3:List Str) (r:Rw):Prop:= ∀ k t,r.nm=some (k,t)->t∈LV s0 s1 s2 s3 k
noncomputable def DT:List (Key × PV):=[(.inr "get",.int 0),(.inr "put",.int 0),(.inr "take",.int 1),(.inr "free",.int 1),(.inr "send",.int 2),(.inr "fetch",.int 2),(.inr "say",.int 3),(.inr "hear",.int 3)]
theorem BC:bW [] DT=DT:=by decide +kernel
theorem wu (a:Str) (h:PH):iW (.str a) (.tup [.str "clock",.str "lot"]) h= .ok (.bl (decide (a∈(["clock", "lot"]:List Str)))) h:=xq (ss:=["clock", "lot"])
theorem Cq (a:Str) (h:PH):iW (.str a) (.tup [.str "get",.str "fetch",.str "hear"]) h= .ok (.bl (decide (a∈(["get", "fetch", "hear"]:List Str)))) h:=xq (ss:=["get", "fetch", "hear"])
theorem Io (a:Str) (h:PH):iW (.str a) (.tup [.str "take",.str "free"]) h= .ok (.bl (decide (a∈(["take", "free"]:List Str)))) h:=xq (ss:=["take", "free"])
noncomputable def B5 (r:Rw) (i:Nat) (t:Str):Prop:= ∀ k u,r.nm=some (k,u)->k=i∧u=t
noncomputable def RowC (x:Str) (i:Nat):Prop:=(x∈(["get", "fetch", "hear"]:List Str)∧ ∀ y t:Str,∃ r:Rw,r.w=x∧r.ps=[.str y,.str t]∧(∀ L n,y∈L->eU L n r)∧B5 r i t) ∨
 (¬ x∈(["get", "fetch", "hear"]:List Str)∧x∈(["take", "free"]:List Str)∧ ∀ t:Str,∃ r:Rw,r.w=x∧r.ps=[.str t]∧(∀ L n,eU L n r)∧B5 r i t) ∨
 (¬ x∈(["get", "fetch", "hear"]:List Str)∧ ¬ x∈(["take", "free"]:List Str)∧ ∀ (t:Str) (e:Sm),∃ r:Rw,r.w=x∧r.ps=[.str t,hZ e]∧(∀ L n,jC e->eU L n r)∧B5 r i t)
theorem nP {r:Rw} {i:Nat} {t:Str} (e:r.nm=some (i,t)):B5 r i t:=λk u h=>by rw [e] at h;cases h;exact ⟨rfl,rfl⟩
theorem Gp:RowC "get" 0:= .inl ⟨by decide +kernel,λy t=>⟨.get y t,rfl,rfl,λ_ _ h=>h,nP rfl⟩⟩
theorem Hz:RowC "put" 0:= .inr (.inr ⟨by decide +kernel,by decide +kernel,λt e=>⟨.put t e,rfl,rfl,λ_ _ h=>h,nP rfl⟩⟩)
theorem Cc:RowC "take" 1:= .inr (.inl ⟨by decide +kernel,by decide +kernel,λt=>⟨.take t,rfl,rfl,λ_ _=>trivial,nP rfl⟩⟩)
theorem Cz:RowC "free" 1:= .inr (.inl ⟨by decide +kernel,by decide +kernel,λt=>⟨.free t,rfl,rfl,λ_ _=>trivial,nP rfl⟩⟩)
theorem BD:RowC "send" 2:= .inr (.inr ⟨by decide +kernel,by decide +kernel,λt e=>⟨.send t e,rfl,rfl,λ_ _ h=>h,nP rfl⟩⟩)
theorem Ay:RowC "fetch" 2:= .inl ⟨by decide +kernel,λy t=>⟨.fetch y t,rfl,rfl,λ_ _ h=>h,nP rfl⟩⟩
theorem HN:RowC "say" 3:= .inr (.inr ⟨by decide +kernel,by decide +kernel,λt e=>⟨.say t e,rfl,rfl,λ_ _ h=>h,nP rfl⟩⟩)
theorem Cp:RowC "hear" 3:= .inl ⟨by decide +kernel,λy t=>⟨.hear y t,rfl,rfl,λ_ _ h=>h,nP rfl⟩⟩
theorem GY {J:PH} {nn:Nat} {s0 s1 s2 s3:List Str} (N:An J nn s0 s1 s2 s3) {x:Str} (h:uq s0 s1 s2 s3 x):x= "clock" ∨x= "lot" ∨
  ∃ (i:Nat) (b:Nat) (s:List Str) (rf:List PV),bT DT (.inr x)=some (.int i)∧ ¬ x∈(["clock", "lot"]:List Str)∧J[nn]?=some (.lst rf)∧dS rf i=some (.ref (b+1+1))∧J[b]?=some (.lst (s.map PV.str))∧s≠[]∧Bq s∧RowC x i∧s=LV s0 s1 s2 s3 i:=by
 obtain ⟨b0,b1,b2,b3,e,e0,e1,e2,e3⟩:=N.at_;obtain ⟨o0,o1,o2,o3⟩:=N.ok;rcases h with h | h | ⟨z,h⟩ | ⟨z,h⟩ | ⟨z,h⟩ | ⟨z,h⟩
 . exact .inl h
 . exact .inr (.inl h)
 . rcases h with rfl | rfl
   . exact .inr (.inr ⟨0,b0,s0,_,by decide +kernel,by decide +kernel,e,q9,e0,z,o0,Gp,rfl⟩)
   . exact .inr (.inr ⟨0,b0,s0,_,by decide +kernel,by decide +kernel,e,q9,e0,z,o0,Hz,rfl⟩)
 . rcases h with rfl | rfl
   . exact .inr (.inr ⟨1,b1,s1,_,by decide +kernel,by decide +kernel,e,xC,e1,z,o1,Cc,rfl⟩)
   . exact .inr (.inr ⟨1,b1,s1,_,by decide +kernel,by decide +kernel,e,xC,e1,z,o1,Cz,rfl⟩)
 . rcases h with rfl | rfl
   . exact .inr (.inr ⟨2,b2,s2,_,by decide +kernel,by decide +kernel,e,x8,e2,z,o2,BD,rfl⟩)
   . exact .inr (.inr ⟨2,b2,s2,_,by decide +kernel,by decide +kernel,e,x8,e2,z,o2,Ay,rfl⟩)
 . rcases h with rfl | rfl
   . exact .inr (.inr ⟨3,b3,s3,_,by decide +kernel,by decide +kernel,e,Dz,e3,z,o3,HN,rfl⟩)
   . exact .inr (.inr ⟨3,b3,s3,_,by decide +kernel,by decide +kernel,e,Dz,e3,z,o3,Cp,rfl⟩)
theorem E6{c:Int}(c0:0<=c)(c1:c < 4): ∃ n:Int,2<=n/\n<=1000/\dS [PV.int 2,.int 3,.int 7,.int 1000] c=some (.int n):=by
 rcases(show c=0\/c=1\/c=2\/c=3 by omega) with rfl | rfl | rfl | rfl<;>exact⟨_,by decide,by decide,rfl⟩
section
variable{pg:Tb}(T:cb pg)
include T
theorem Hs(j:Nat)(fr:PO){nn np nk:Nat}{ps ks s0 s1 s2 s3 L:List Str}(p0:0 < ps.length)(p9:ps.length<=1000)(hL: ∀ x∈ps,x∈L)(k0:0 < ks.length)(k9:ks.length<=1000)(hK: ∀ x∈ks,uq s0 s1 s2 s3 x)(q:Int × Int × Int){J:PH}(N:An J nn s0 s1 s2 s3)(ep:J[np]?=some (.lst (ps.map PV.str)))(ek:J[nk]?=some (.lst (ks.map PV.str))) :
  ∃(r:Rw)(q':Int × Int × Int),(∀ n,eU L n r)/\zE s0 s1 s2 s3 r/\run pg (j+5) "_law_touch_row" [.ref 1,.ref (nn+1+1),.ref (np+1+1),.ref (nk+1+1)] (fr::aU q::J)= .ok (br r) (fr::aU q'::J):=by
 obtain⟨a,q1,a0,a1,ea⟩:=cC T (j+3) fr q ks.length (by omega) (by omega);obtain⟨x,hx,ex⟩:=nj a0 a1;obtain⟨b,q2,b0,b1,eb⟩:=cC T (j+3) fr q1 ps.length (by omega) (by omega);obtain⟨y,hy,ey⟩:=nj b0 b1;have yL:=hL y hy;rcases GY N (hK x hx) with rfl | rfl | ⟨i,bb,s,rf,v1,v2,v3,v4,v5,v6,v7,cl,sv⟩
 . refine ⟨.clock y,q2,λ_=>yL,(λ_ _ h=>nomatch h),?_⟩;have m1:(UC "clock")∈(["clock", "lot"]:List Str):=by decide +kernel
   rw [run_eq T.cw rfl];simp? [aZ,bP,ek,ep,Ui,ea,ex,eb,ey,wu,m1,br,Rw.w,Rw.ps];exact lh
 . obtain ⟨c,q3,c0,c1,ec⟩:=cC T (j+3) fr q2 4 (by decide) (by decide);obtain ⟨n,n0,n9,en⟩:=E6 c0 c1;refine ⟨.lot y n,q3,λ_=>⟨yL,n0,n9⟩,(λ_ _ h=>nomatch h),?_⟩;have m1:(UC "lot")∈(["clock", "lot"]:List Str):=by decide +kernel
   rw [run_eq T.cw rfl];simp? [aZ,bP,ek,ep,Ui,ea,ex,eb,ey,wu,m1,ec,en,br,Rw.w,Rw.ps];exact dX rfl
 . have sp:0 < s.length:=aaC.mpr v6;have sl:=v7.1;obtain⟨c,q3,c0,c1,ec⟩:=cC T (j+3) fr q2 s.length (by omega) (by omega);obtain⟨t,ht,et⟩:=nj c0 c1;have rin: ∀{r:Rw},B5 r i t->zE s0 s1 s2 s3 r:=λh k u e=>by obtain⟨rfl,rfl⟩:=h k u e;rw[<- sv];exact ht
   have old: ∀{n:Nat}{o:PO}(g:PH),J[n]?=some o->(J++g)[n]?=some o:=λg e=>(aq (aA e)).trans e;have dk:Oa (J.length+1+1) [((.inr "get" :Key),PV.int 0),(.inr "put",.int 0),(.inr "take",.int 1),(.inr "free",.int 1),(.inr "send",.int 2),(.inr "fetch",.int 2),(.inr "say",.int 3),(.inr "hear",.int 3)] (fr::aU q2::(J++[.dct []]))= .ok (.ref (J.length+1+1)) (fr::aU q2::(J++[.dct DT])):=by
    have:=yO (h:=fr::aU q2::J) (kvs:=DT) (by simp[DT]);rw[BC] at this;exact this
   have w3:=old [.dct DT] v3;have w5:=old [.dct DT] v5;rcases cl with⟨g1,g2⟩ | ⟨g1,g2,g3⟩ | ⟨g1,g2,g3⟩
   . obtain⟨r,r1,r2,r3,r4⟩:=g2 y t;have rv:br r= .tup [.str x,.str y,.str t]:=by unfold br;rw[r1,r2]
     refine⟨r,q3,λn=>r3 L n yL,rin r4,?_⟩;rw[rv,run_eq T.cw rfl];simp? [aZ,bP,ek,ep,Ui,ea,ex,eb,ey,wu,v2,lA,pQ,k4,oV,pj,oG,dk,v1,w3,v4,w5,ec,et,Cq,g1];exact dX rfl
   . obtain⟨r,r1,r2,r3,r4⟩:=g3 t;have rv:br r= .tup [.str x,.str t]:=by unfold br;rw[r1,r2]
     refine⟨r,q3,λn=>r3 L n,rin r4,?_⟩;rw[rv,run_eq T.cw rfl];simp? [aZ,bP,ek,ep,Ui,ea,ex,eb,ey,wu,v2,lA,pQ,k4,oV,pj,oG,dk,v1,w3,v4,w5,ec,et,Cq,g1,Io,g2];exact dX rfl
   . obtain⟨e,q4,h1,h2,h3,h4⟩:=xh T j fr p0 p9 2 q3 (J++[.dct DT]) (old [.dct DT] ep);have hs:jC e:=⟨h1,by omega⟩
     obtain⟨r,r1,r2,r3,r4⟩:=g3 t e;have rv:br r= .tup [.str x,.str t,hZ e]:=by unfold br;rw[r1,r2]
     refine⟨r,q4,λn=>r3 L n hs,rin r4,?_⟩;have h4':run pg (j+4) "_law_sum" [.ref 1,.ref (np+1+1),.int 2] (fr::aU q3::(J++[.dct DT]))=_:=h4;rw[rv,run_eq T.cw rfl];simp? [aZ,bP,ek,ep,Ui,ea,ex,eb,ey,wu,v2,lA,pQ,k4,oV,pj,oG,dk,v1,w3,v4,w5,ec,et,Cq,g1,Io,g2,h4'];exact dX (v:= .tup [.str x,.str t,hZ e]) (by simp[PV.flat,PV.bF,fj])
end
structure KE(H:PH)(nd:Nat)(e:PV × List Str × List Str):Prop where
 at_: ∃(i:Int)(q b:Nat)(rf:List PV),e.1= .tup [.int i,.ref q]/\H[nd]?=some (.lst rf)/\dS rf i=some (.ref b)/\H[b]?=some (.lst (e.2.2.map PV.str))/\H[q]?=some (.lst (e.2.1.map PV.str))
 ok: ∀ x∈e.2.2,XW x=true
 le:e.2.1.length<=4
theorem KE.app{H g:PH}{nd:Nat}{e:PV × List Str × List Str}(h:KE H nd e):KE (H++g) nd e:=by
 obtain⟨i,q,b,rf,h1,h2,h3,h4,h5⟩:=h.at_;exact⟨⟨i,q,b,rf,h1,(aq (aA h2)).trans h2,h3,(aq (aA h4)).trans h4,(aq (aA h5)).trans h5⟩,h.ok,h.le⟩
noncomputable def kG:MG:=(gT 2 (aG (gN 4) (aG (gN 5) eF)))
noncomputable def kB:MS:=(b6 (aM (ai iV (ai aw (aa 1) (aa 4)) (bN ah))) (ak (ai bf (ai bf (aa 3) (aa 5)) (aa 5)) (gN 3)) cP)
theorem Pj(c:CF){H:PH}{nd cc:Nat}{ks:List Str}{e:PV × List Str × List Str}(E:KE H nd e)(e4:H[cc]?=some (.lst (ks.map PV.str)))(hl:ks.length<=900)(a0 a2 u4 u5 n6 n7 n8 n9:Option PV) :
  ∃(g':PH)(c':Nat)(ks':List Str)(v4 v5:Option PV),(H++g')[c']?=some (.lst (ks'.map PV.str))/\cc<=c'/\ks.length<=ks'.length/\ks'.length<=ks.length+10/\(∀ x∈ks',x∈ks\/(e.2.2≠[]/\x∈e.2.1)) /\
   bA kG kB c e.1 [a0,some (.ref nd),a2,some (.ref cc),u4,u5,n6,n7,n8,n9] H= .ok (.nx [a0,some (.ref nd),a2,some (.ref c'),v4,v5,n6,n7,n8,n9]) (H++g'):=by
 obtain⟨i,q,b,rf,h1,e1,e2,e3,e5⟩:=E.at_;obtain⟨it,qs,ss⟩:=e;simp only at h1 e3 e5 ⊢;subst h1;have hq:qs.length<=4:=E.le;have l3:=aA e3;have l4:=aA e4;have l5:=aA e5;have ne:=ne_nil (h:=H++[.lst []]) (n:=b) (m:=H.length) (ss:=ss) (by rw[aq l3];exact e3) bM E.ok;by_cases z:ss=[]
 . refine⟨[.lst []],cc,ks,some (.int i),some (.ref q),by rw[aq l4];exact e4,Uo _,Uo _,by omega,λx m=> .inl m,?_⟩;simp? [kG,kB,e1,e2,ne,z]
 . have ad1:=og (h:=H++[.lst []]) (n:=cc) (m:=q) (by rw[aq l4];exact e4) (by rw[aq l5];exact e5) (by rw[Ui,Ui];omega);have ad2:bf (.ref (H.length+(0+1))) (.ref q) (H++[.lst [],.lst (ks.map PV.str++qs.map PV.str)])= .ok (.ref (H.length+(0+1+1))) (H++[.lst [],.lst (ks.map PV.str++qs.map PV.str),.lst (ks.map PV.str++qs.map PV.str++qs.map PV.str)]):=by
    have:=og (h:=H++[.lst [],.lst (ks.map PV.str++qs.map PV.str)]) (n:=H.length+(0+1)) (m:=q) (xs:=ks.map PV.str++qs.map PV.str) (ys:=qs.map PV.str) (by rw[bo];rfl) (by rw[aq l5];exact e5) (by rw[Uu,Ui,Ui];omega);simpa using this
   refine⟨[.lst [],.lst (ks.map PV.str++qs.map PV.str),.lst (ks.map PV.str++qs.map PV.str++qs.map PV.str)],H.length+(0+1+1),ks++qs++qs,some (.int i),some (.ref q),by rw[bo,Vh,Vh];rfl,by omega,by simp only[Uu];omega,by simp only[Uu];omega,λx m=>?_,?_⟩
   . rcases Vl.mp m with m | m
     . rcases Vl.mp m with m | m
       . exact .inl m
       . exact .inr ⟨z,m⟩
     . exact .inr ⟨z,m⟩
   . simp? [kG,kB,e1,e2,ne,z,ad1,ad2]
theorem P0(c:CF){nd n0:Nat}(xs0:List PV)(a0 a2 n6 n7 n8 n9:Option PV): ∀(es:List (PV × List Str × List Str))(H:PH)(cc:Nat)(ks:List Str)(u4 u5:Option PV),(∀ e∈es,KE H nd e)->H[cc]?=some (.lst (ks.map PV.str))->H[n0]?=some (.lst xs0)->ks.length+10*es.length<=900 ->
  ∃(g':PH)(c':Nat)(ks':List Str)(v4 v5:Option PV),(H++g')[c']?=some (.lst (ks'.map PV.str))/\cc<=c'/\ks.length<=ks'.length/\ks'.length<=ks.length+10*es.length/\(∀ x∈ks',x∈ks\/ ∃ e∈es,e.2.2≠[]/\x∈e.2.1) /\
   bJ ⟨some n0,xs0⟩ (bA kG kB c) (es.map (·.1)) [a0,some (.ref nd),a2,some (.ref cc),u4,u5,n6,n7,n8,n9] H= .ok (.nx [a0,some (.ref nd),a2,some (.ref c'),v4,v5,n6,n7,n8,n9]) (H++g'):=by
 intro es
 induction es with
 | nil=>intro H cc ks u4 u5 _ e4 e0 _;exact⟨[],cc,ks,u4,u5,by rw[U3];exact e4,Uo _,Uo _,by simp,λx m=> .inl m,by rw[U3];exact yH (c7 e0)⟩
 | cons e es ih =>
  intro H cc ks u4 u5 hE e4 e0 hl
  rw[Um] at hl
  obtain⟨g1,c1,k1,v4,v5,f1,f0,f2,f3,f4,f5⟩:=Pj c (hE e Uv) e4 (by omega) a0 a2 u4 u5 n6 n7 n8 n9
  obtain⟨g2,c2,k2,w4,w5,i1,i0,i2,i3,i4,i5⟩:=ih (H++g1) c1 k1 v4 v5 (λx m=>(hE x (Uz _ m)).app) f1 ((aq (aA e0)).trans e0) (by omega)
  refine⟨g1++g2,c2,k2,w4,w5,by rw[<- UT];exact i1,by omega,by omega,by rw[Um];omega,λx m=>?_,?_⟩
  . rcases i4 x m with m | ⟨e',m',z⟩
    . rcases f4 x m with m | z
      . exact .inl m
      . exact .inr ⟨e,Uv,z⟩
    . exact .inr ⟨e',Uz _ m',z⟩
  . rw[Ul,yJ (c7 e0),f5,cB,bS,i5,UT]
theorem FN{a b c:Int}(a0:0<=a)(a1:a < 4)(b0:0<=b)(b1:b < 8)(c0:c=0\/c=1): ∃ m:Int,0<=m/\m<=10/\dS [PV.int a,.int (3+b)] c=some (.int m):=by
 rcases c0 with rfl | rfl
 . exact⟨a,a0,by omega,q9⟩
 . exact⟨3+b,by omega,by omega,xC⟩
noncomputable def N1:MS:=(ae (ak (ag "_law_take" (a2 (aa 0) (eI 8))) (gN 9)) (b6 (mQ (aa 9) (eI 0)) (cX (eM bu bY (aa 7) (ab (au (ab (eS "let") (ab (ai aw (aa 2) (ag "_law_take" (ab (aa 0) (ab (eB cD (a1 (aa 2))) ah)))) (ab (ag "_law_sum" (a3 (aa 0) (aa 2) (eI 2))) ah)))) ah))) (b6 (mQ (aa 9) (eI 1)) (cX (eM bu bY (aa 7) (ab (au (ab (eS "leap") (ab (ag "_law_take" (ab (aa 0) (ab (ai bf (aa 6) (eI 1)) ah))) (ab (ag "_law_sum" (a3 (aa 0) (aa 2) (eI 2))) ah)))) ah))) (cX (eM bu bY (aa 7) (ab (ag "_law_touch_row" (ab (aa 0) (a3 (aa 1) (aa 2) (aa 3)))) ah))))))
section
variable{pg:Tb}(T:cb pg)
include T
theorem Aw(j:Nat)(fr:PO){nn np nk:Nat}{ps ks s0 s1 s2 s3 L:List Str}(p0:0 < ps.length)(p9:ps.length<=1000)(hL: ∀ x∈ps,x∈L)(k0:0 < ks.length)(k9:ks.length<=1000)(hK: ∀ x∈ks,uq s0 s1 s2 s3 x){J:PH}(N:An J nn s0 s1 s2 s3)(ep:J[np]?=some (.lst (ps.map PV.str)))(ek:J[nk]?=some (.lst (ks.map PV.str))){m:Nat}(m9:m<=10)(xs0:List PV)(a4 a5:Option PV) :
  ∀(aj:List PV)(rs:List Rw)(q:Int × Int × Int)(a8 a9:Option PV),rs.length+aj.length<=1000 ->
  ∃(rs':List Rw)(q':Int × Int × Int)(b8 b9:Option PV),rs'.length=aj.length/\(∀ r∈rs',eU L m r/\zE s0 s1 s2 s3 r) /\
   bJ ⟨none,xs0⟩ (bA (gN 8) N1 (run pg (j+5))) aj [some (.ref 1),some (.ref (nn+1+1)),some (.ref (np+1+1)),some (.ref (nk+1+1)),a4,a5,some (.int m),some (.ref (J.length+1+1)),a8,a9] (fr::aU q::(J++[.lst (rs.map br)])) =
   .ok (.nx [some (.ref 1),some (.ref (nn+1+1)),some (.ref (np+1+1)),some (.ref (nk+1+1)),a4,a5,some (.int m),some (.ref (J.length+1+1)),b8,b9]) (fr::aU q'::(J++[.lst ((rs++rs').map br)])):=by
 intro aj
 induction aj with
 | nil=>intro rs q a8 a9 _;exact⟨[],q,a8,a9,rfl,(λr m=>nomatch m),by rw[U3];exact fZ⟩
 | cons x aj ih =>
  intro rs q a8 a9 hl
  rw[Um] at hl
  obtain⟨w,q1,w0,w1,ew⟩:=cC T (j+4) fr q 8 (by decide) (by decide)
  have hz:(rs.map br).length < 16777216:=by rw[Ui];omega
  have ep':(J++[PO.lst (rs.map br)])[np]?=some (.lst (ps.map PV.str)):=by rw[aq (aA ep)];exact ep
  have ek':(J++[PO.lst (rs.map br)])[nk]?=some (.lst (ks.map PV.str)):=by rw[aq (aA ek)];exact ek
  suffices st: ∃(r:Rw)(q2:Int × Int × Int)(u9:Option PV),(eU L m r/\zE s0 s1 s2 s3 r)/\bA (gN 8) N1 (run pg (j+5)) x [some (.ref 1),some (.ref (nn+1+1)),some (.ref (np+1+1)),some (.ref (nk+1+1)),a4,a5,some (.int m),some (.ref (J.length+1+1)),a8,a9] (fr::aU q::(J++[.lst (rs.map br)]))= .ok (.nx [some (.ref 1),some (.ref (nn+1+1)),some (.ref (np+1+1)),some (.ref (nk+1+1)),a4,a5,some (.int m),some (.ref (J.length+1+1)),some x,u9]) (fr::aU q2::(J++[.lst (rs.map br++[br r])])) by
   obtain⟨r,q2,u9,hr,st⟩:=st;obtain⟨rs',q',b8,b9,i1,i2,i3⟩:=ih (rs++[r]) q2 (some x) u9 (by simp only[Uu,Um,UL];omega);refine⟨r::rs',q',b8,b9,by rw[Um,Um,i1],λz m=>?_,?_⟩
   . rcases Uy.mp m with rfl | m
     . exact hr
     . exact i2 z m
   . rw[Vh,Ul,UU] at i3;rw[dh,st,cB,bS,i3,UT];rfl
  by_cases z0:w=0
  . subst z0;obtain⟨b,q2,b0,b1,eb⟩:=cC T (j+4) fr q1 ps.length (by omega) (by omega);obtain⟨y,hy,ey⟩:=nj b0 b1;obtain⟨e,q3,h1,h2,h3,h4⟩:=xh T (j+1) fr p0 p9 2 q2 (J++[.lst (rs.map br)]) ep';have h4':run pg (j+5) "_law_sum" [.ref 1,.ref (np+1+1),.int 2] (fr::aU q2::(J++[.lst (rs.map br)]))=_:=h4;have hs:jC e:=⟨h1,by omega⟩
    refine⟨.let_ y e,q3,some (.int 0),⟨⟨hL y hy,hs⟩,(λ_ _ h=>nomatch h)⟩,?_⟩;simp? [N1,ew,ep',Ui,eb,ey,h4',pY hz,br,Rw.w,Rw.ps]
  by_cases z1:w=1
  . subst z1;obtain⟨b,q2,b0,b1,eb⟩:=cC T (j+4) fr q1 ((m:Int)+1) (by omega) (by omega);obtain⟨e,q3,h1,h2,h3,h4⟩:=xh T (j+1) fr p0 p9 2 q2 (J++[.lst (rs.map br)]) ep';have h4':run pg (j+5) "_law_sum" [.ref 1,.ref (np+1+1),.int 2] (fr::aU q2::(J++[.lst (rs.map br)]))=_:=h4;have hs:jC e:=⟨h1,by omega⟩
    refine⟨.leap b e,q3,some (.int 1),⟨⟨b0,by omega,hs⟩,(λ_ _ h=>nomatch h)⟩,?_⟩;simp? [N1,ew,eb,h4',pY hz,br,Rw.w,Rw.ps]
  . obtain⟨r,q2,h1,h2,h3⟩:=Hs T j fr p0 p9 hL k0 k9 hK q1 N.app ep' ek';refine⟨r,q2,some (.int w),⟨h1 m,h2⟩,?_⟩;simp? [N1,ew,z0,z1,h3,pY hz]
end
noncomputable def kF:MS:=(jv (j7 (bN (ab (au (ab (eI 0) (ab (bN (a2 (eS "get") (eS "put"))) ah))) (ab (au (ab (eI 1) (ab (bN (a2 (eS "take") (eS "free"))) ah))) (ab (au (ab (eI 2) (ab (bN (a2 (eS "send") (eS "fetch"))) ah))) (ab (au (ab (eI 3) (ab (bN (a2 (eS "say") (eS "hear"))) ah))) ah)))))) kG kB)
theorem Ph(c:CF)(fr:PO)(q:Int × Int × Int){nn:Nat}{s0 s1 s2 s3:List Str}{J:PH}(N:An J nn s0 s1 s2 s3)(a0 a2:Option PV) :
  ∃(g':PH)(nk:Nat)(ks:List Str)(v4 v5:Option PV),(J++g')[nk]?=some (.lst (ks.map PV.str))/\0 < ks.length/\ks.length<=1000/\(∀ x∈ks,uq s0 s1 s2 s3 x) /\
   kF c [a0,some (.ref (nn+1+1)),a2,some (.ref (J.length+1+1)),none,none,none,none,none,none] (fr::aU q::(J++[.lst [.str "clock",.str "lot"]]))= .ok (.nx [a0,some (.ref (nn+1+1)),a2,some (.ref (nk+1+1)),v4,v5,none,none,none,none]) (fr::aU q::(J++g')):=by
 obtain ⟨b0,b1,b2,b3,e,e0,e1,e2,e3⟩:=N.at_;obtain ⟨o0,o1,o2,o3⟩:=N.ok
 let m:=J.length
 let es:List (PV × List Str × List Str):=[(.tup [.int 0,.ref (m+(0+1)+1+1)],["get", "put"],s0),(.tup [.int 1,.ref (m+(0+1+1)+1+1)],["take", "free"],s1),(.tup [.int 2,.ref (m+(0+1+1+1)+1+1)],["send", "fetch"],s2),(.tup [.int 3,.ref (m+(0+1+1+1+1)+1+1)],["say", "hear"],s3)]
 let Y:PH:=[.lst [.str "clock",.str "lot"],.lst [.str "get",.str "put"],.lst [.str "take",.str "free"],.lst [.str "send",.str "fetch"],.lst [.str "say",.str "hear"],.lst (es.map (·.1))]
 have old: ∀ {n:Nat} {o:PO},J[n]?=some o->(fr::aU q::(J++Y))[n+1+1]?=some o:=λe=>by
  rw [UE,UE];exact (aq (aA e)).trans e
 have new: ∀(i:Nat),(fr::aU q::(J++Y))[m+i+1+1]?=Y[i]?:=λi=>by
  rw[UE,UE];exact bo
 have hE: ∀ x∈es,KE (fr::aU q::(J++Y)) (nn+1+1) x:=λx mx=>by
  simp only[es,Uy,U2,or_false] at mx;rcases mx with rfl | rfl | rfl | rfl
  . exact⟨⟨0,_,b0+1+1,_,rfl,old e,q9,old e0,by rw[new];rfl⟩,λx m=>(o0.2 x m).2,by simp⟩
  . exact ⟨⟨1,_,b1+1+1,_,rfl,old e,xC,old e1,by rw [new];rfl⟩,λx m=>(o1.2 x m).2,by simp⟩
  . exact ⟨⟨2,_,b2+1+1,_,rfl,old e,x8,old e2,by rw [new];rfl⟩,λx m=>(o2.2 x m).2,by simp⟩
  . exact ⟨⟨3,_,b3+1+1,_,rfl,old e,Dz,old e3,by rw [new];rfl⟩,λx m=>(o3.2 x m).2,by simp⟩
 obtain ⟨g1,c1,ks,v4,v5,f1,f0,f2,f3,f4,f5⟩:=P0 c (nd:=nn+1+1) (n0:=m+(0+1+1+1+1+1)+1+1) (es.map (·.1)) a0 a2 none none none none es (fr::aU q::(J++Y)) (m+1+1) ["clock", "lot"] none none hE (new 0) (by rw [new];rfl) (by simp [es])
 obtain ⟨nk,rfl⟩: ∃ nk,c1=nk+1+1:=⟨c1 - 2,by omega⟩
 refine ⟨Y++g1,nk,ks,v4,v5,?_,Ut (by simp) f2,UO f3 (by simp [es]),λx mx=>?_,?_⟩
 . rw [Vq,Vq,UE,UE,UT] at f1;exact f1
 . rcases f4 x mx with mx | ⟨e',m',z,mx⟩
   . simp only[Uy,U2,or_false] at mx;rcases mx with h | h
     . exact .inl h
     . exact .inr (.inl h)
   . simp only[es,Uy,U2,or_false] at m';rcases m' with rfl | rfl | rfl | rfl<;>simp only[Uy,U2,or_false] at mx z
     . exact .inr (.inr (.inl ⟨z,mx⟩))
     . exact .inr (.inr (.inr (.inl ⟨z,mx⟩)))
     . exact .inr (.inr (.inr (.inr (.inl ⟨z,mx⟩))))
     . exact .inr (.inr (.inr (.inr (.inr ⟨z,mx⟩))))
 . simp only[es,Ul,UU,Y,m,Vq,UT] at f5;simp? [kF,f5];rfl
section
variable{pg:Tb}(T:cb pg)
include T
theorem G2(j:Nat)(fr:PO){nn np:Nat}{ps s0 s1 s2 s3 L:List Str}(p0:0 < ps.length)(p9:ps.length<=1000)(hL: ∀ x∈ps,x∈L)(q:Int × Int × Int){J:PH}(N:An J nn s0 s1 s2 s3)(ep:J[np]?=some (.lst (ps.map PV.str))) :
  ∃(rs:List Rw)(q':Int × Int × Int),rs.length<=10/\(∀ r∈rs,eU L rs.length r/\zE s0 s1 s2 s3 r)/\run pg (j+6) "_law_rows" [.ref 1,.ref (nn+1+1),.ref (np+1+1)] (fr::aU q::J)= .ok (bH rs) (fr::aU q'::J):=by
 obtain⟨g1,nk,ks,v4,v5,f1,f2,f3,f4,f5⟩:=Ph (run pg (j+5)) fr q N (some (.ref 1)) (some (.ref (np+1+1)));obtain⟨a,q1,a0,a1,ea⟩:=cC T (j+4) fr q 4 (by decide) (by decide);obtain⟨b,q2,b0,b1,eb⟩:=cC T (j+4) fr q1 8 (by decide) (by decide);obtain⟨d,q3,d0,d1,ed⟩:=cC T (j+4) fr q2 6 (by decide) (by decide);obtain⟨mi,m0,m9,em⟩:=FN a0 a1 b0 b1 (c:=if decide (0 < d)=true then 1 else 0) (by split<;>simp);obtain⟨m,rfl⟩:=Vw m0;have N':An (J++(g1++[.lst [.int a,.int (3+b)]])) nn s0 s1 s2 s3:=N.app;obtain⟨rs,q4,b8,b9,h1,h2,h3⟩:=Aw T j fr p0 p9 hL f2 f3 f4 N' (by rw[aq (aA ep)];exact ep) (by rw[<- UT,aq (aA f1)];exact f1) (m:=m) (by omega) (aE 0 m) v4 v5 (aE 0 m) [] q3 none none (by simp[aE];omega);have lr:(aE 0 m).length=m:=by unfold aE;simp
 rw[lr] at h1;refine⟨rs,q4,by omega,by rw[h1];exact h2,?_⟩;rw[UU,UR] at h3;have tn:YB (m:Int)=m:=Vr m;unfold kF kG kB at f5;unfold N1 at h3;simp only[Uu,Um,UL,UT,Vq,UR] at h3;rw[run_eq T.u6 rfl];simp? [gM,nO,↓f5,ea,eb,ed,em,mM,tn,h3];exact dX (v:=bH rs) (mD rs)
end
noncomputable def bG (h:Str × List Rw):PV:= .tup [.str h.1,bH h.2]
noncomputable def Mn:List Str:=["a", "ab", "putter", "b", "getx", "abc", "locked", "sayer", "c", "hands", "fetched", "abcdefgh"]
noncomputable def P8:List Str:=["boxes", "locks", "lanes", "doors", "d", "taken", "abcd", "lots"]
noncomputable def mG:List Str:=Mn++P8
theorem DP: ∀ x∈mG,tS x=true∧XW x=true:=by decide +kernel
noncomputable def DD (pl:List Str):Prop:=pl.length=20∧ ∀ x∈pl,tS x=true∧XW x=true
theorem zK{pl:List Str}(h:DD pl)(lo hi:Option Int): ∃ ss:List Str,gD (pl.map PV.str) lo hi=ss.map PV.str/\Bq ss:=by
 unfold gD;refine⟨(pl.drop (HT.df (pl.map PV.str).length 0 lo)).take (HT.df (pl.map PV.str).length (pl.map PV.str).length hi - HT.df (pl.map PV.str).length 0 lo),by rw[aaH,abQ],?_,λx m=>h.2 x (aar (Yg m))⟩;have:=h.1;simp only[Vo,V1];omega
theorem yi{xs:List Int}{v:Int}(h0:0<=v)(h1:v < xs.length): ∃ x∈xs,dS (xs.map PV.int) v=some (.int x):=by
 obtain⟨n,en⟩:=Vw h0;subst en;have hn:n < xs.length:=by omega
 exact⟨xs[n],VC hn,P3.cZ rfl (by rw[UA,Ur hn];rfl)⟩
noncomputable def DF(b:Nat)(X:PH)(r:PV):Prop:= ∃(i:Nat)(ss:List Str),r= .ref (b+i+1+1)/\X[i]?=some (.lst (ss.map PV.str))/\Bq ss
theorem DF.more{b:Nat}{X:PH}{r:PV}(h:DF b X r)(Y:PH):DF b (X++Y) r:=by
 obtain⟨i,ss,h1,h2,h3⟩:=h;exact⟨i,ss,h1,(aq (aA h2)).trans h2,h3⟩
noncomputable def Rm:MS:=(ae (ak (ai aw (bN (ab (eI 1) (ab (eI 2) (ab (eI 4) (a3 (eI 0) (eI 2) (eI 3)))))) (ag "_law_take" (a2 (aa 0) (eI 6)))) (gN 5)) (cX (eM bu bY (aa 3) (ab (AQ (aa 1) (gp (ai dA (eI 4) (aa 4))) (gp (ai bf (ai dA (eI 4) (aa 4)) (aa 5)))) ah))))
noncomputable def RG:ME:=(au (ab (aa 10) (ab (ai aw (bN (ab (eI 0) (a3 (eI 5) (eI 999) (eI 1)))) (ag "_law_take" (a2 (aa 0) (eI 4)))) ah)))
section
variable{pg:Tb}(T:cb pg)
include T
theorem wL(j:Nat)(fr:PO){np:Nat}{pl:List Str}(hp:DD pl){J:PH}(ep:J[np]?=some (.lst (pl.map PV.str)))(xs0:List PV)(e2 e6 e7 e8 e9:Option PV) :
  ∀(aj:List Int)(refs:List PV)(X:PH)(q:Int × Int × Int)(e4 e5:Option PV),refs.length+aj.length<=1000->(∀ r∈refs,DF (J.length+1) X r) ->
  ∃(refs':List PV)(X':PH)(q':Int × Int × Int)(f4 f5:Option PV),refs'.length=refs.length+aj.length/\(∀ r∈refs',DF (J.length+1) X' r) /\
   bJ ⟨none,xs0⟩ (bA (gN 4) Rm (run pg (j+1))) (aj.map PV.int) [some (.ref 1),some (.ref (np+1+1)),e2,some (.ref (J.length+1+1)),e4,e5,e6,e7,e8,e9] (fr::aU q::(J++ .lst refs::X))= .ok (.nx [some (.ref 1),some (.ref (np+1+1)),e2,some (.ref (J.length+1+1)),f4,f5,e6,e7,e8,e9]) (fr::aU q'::(J++ .lst refs'::X')):=by
 intro aj
 induction aj with
 | nil=>intro refs X q e4 e5 _ h;exact⟨refs,X,q,e4,e5,rfl,h,fZ⟩
 | cons i aj ih =>
  intro refs X q e4 e5 hl h
  rw[Um] at hl
  let W:List PV:=[.int 1,.int 2,.int 4,.int 0,.int 2,.int 3]
  obtain⟨a,q1,a0,a1,ea⟩:=cC T j fr q 6 (by decide) (by decide)
  obtain⟨m,mm,em⟩:=yi (xs:=[1,2,4,0,2,3]) a0 (by simpa using a1)
  have em':dS [PV.int 1,.int 2,.int 4,.int 0,.int 2,.int 3] a=some (.int m):=em
  obtain⟨ss,ec,hs⟩:=zK hp (some (4*i)) (some (4*i+m))
  have old: ∀ Y:PH,(J++Y)[np]?=some (.lst (pl.map PV.str)):=λY=>(aq (aA ep)).trans ep
  have hz:refs.length < 16777216:=by omega
  obtain⟨refs',X',q',f4,f5,h1,h2,h3⟩:=ih (refs++[.ref (J.length+1+(X.length+1)+1+1)]) (X++[.lst W,.lst (ss.map PV.str)]) q1 (some (.int i)) (some (.int m)) (by simp only[Uu,Um,UL];omega) (λr mr=>by
   rcases Vl.mp mr with mr | mr
   . exact(h r mr).more _
   . rw[Vc.mp mr];exact⟨X.length+1,ss,rfl,by rw[bo];rfl,hs⟩)
  refine⟨refs',X',q',f4,f5,by rw[h1];simp only[Uu,Um,UL];omega,h2,?_⟩
  have st:bA (gN 4) Rm (run pg (j+1)) (.int i) [some (.ref 1),some (.ref (np+1+1)),e2,some (.ref (J.length+1+1)),e4,e5,e6,e7,e8,e9] (fr::aU q::(J++ .lst refs::X))= .ok (.nx [some (.ref 1),some (.ref (np+1+1)),e2,some (.ref (J.length+1+1)),some (.int i),some (.int m),e6,e7,e8,e9]) (fr::aU q1::(J++ .lst (refs++[.ref (J.length+1+(X.length+1)+1+1)])::(X++[.lst W,.lst (ss.map PV.str)]))):=by
   have ar:J.length+(X.length+(0+1)+1)=J.length+1+(X.length+1):=by omega
   simp? [Rm,W,ea,em',old,ec,pY hz,ar]
  rw[Ul,dh,st,cB,bS]
  exact h3
theorem De(j:Nat)(fr:PO){b:Nat}{s0:List Str}(e1 e2 e3 e4 e5 e6 e7 e8 e9:Option PV) :
  ∀(xs:List Str)(ys:List PV)(J:PH)(q:Int × Int × Int),J[b]?=some (.lst (s0.map PV.str))->ys.length+xs.length<=1000-> ∃(bs:List (Str × Int))(X:PH)(q':Int × Int × Int),bs.map (·.1)=xs/\(∀ z∈bs,0<=z.2/\z.2<=999) /\
   P3.fH ⟨some (b+1+1),s0.map PV.str⟩ (aQ 1 (gN 10) aP RG (run pg (j+1)) [some (.ref 1),e1,e2,e3,e4,e5,e6,e7,e8,e9]) (xs.map PV.str) ys (fr::aU q::J)= .ok (ys++bs.map cO) (fr::aU q'::(J++X)):=by
 have fi: ∀{J:PH}(q:Int × Int × Int),J[b]?=some (.lst (s0.map PV.str))->kQ.jt ⟨some (b+1+1),s0.map PV.str⟩ (fr::aU q::J)=true:=λ{J} q h=>c7 (show J[b]?=_ from h);intro xs
 induction xs with
 | nil=>intro ys J q h1 _;exact⟨[],[],q,rfl,λz m=>(nomatch m),by rw[UU,P3.fH,if_pos (fi q h1)];simp⟩
 | cons x xs ih =>
  intro ys J q h1 hl
  rw[Um] at hl
  obtain⟨a,q1,a0,a1,ea⟩:=cC T j fr q 4 (by decide) (by decide)
  obtain⟨m,mm,em⟩:=yi (xs:=[0,5,999,1]) a0 (by simpa using a1)
  have em':dS [PV.int 0,.int 5,.int 999,.int 1] a=some (.int m):=em
  have hm:0<=m/\m<=999:=by
   simp only[Uy,U2,or_false] at mm;omega
  obtain⟨bs,X,q',i1,i2,i3⟩:=ih (ys++[cO (x,m)]) (J++[.lst [.int 0,.int 5,.int 999,.int 1]]) q1 ((aq (aA h1)).trans h1) (by simp only[Uu,Um,UL];omega)
  refine⟨(x,m)::bs,.lst [.int 0,.int 5,.int 999,.int 1]::X,q',by rw[Ul,i1],λz mz=>?_,?_⟩
  . rcases Uy.mp mz with rfl | mz
    . exact hm
    . exact i2 z mz
  have hz:ys.length < sizeLine:=Ut (show ys.length < 1001 by omega) (by decide)
  have st:aQ 1 (gN 10) aP RG (run pg (j+1)) [some (.ref 1),e1,e2,e3,e4,e5,e6,e7,e8,e9] (.str x) (fr::aU q::J)= .ok (some (cO (x,m))) (fr::aU q1::(J++[.lst [.int 0,.int 5,.int 999,.int 1]])):=by
   simp? [RG,ea,em',cO]
  rw[Ul,P3.fH,if_pos ⟨fi q h1,hz⟩,st,cH]
  simpa using i3
end
noncomputable def kz(s0 s1 s2 s3:List Str)(h:Str × List Rw):Prop:=h.2.length<=10/\ ∃ L:List Str,L.length<=6/\(∀ x∈L,tS x=true)/\ ∀ r∈h.2,eU L h.2.length r/\zE s0 s1 s2 s3 r
noncomputable def Ry:ME:=(uz (aM (ai iV (eX 3 0) (bN ah))) (ai aw (eX 3 0) (eI 0)) (eS "q"))
noncomputable def Rz:MS:=(ae (ak (AQ (bN (ab (eS "p") (ab Ry (ab (eS "pp") (ab (ai aw (aa 1) (ai bf (eI 16) (aa 8))) ah))))) jf (gp (ai bf (eI 1) (ag "_law_take" (a2 (aa 0) (eI 4)))))) (gN 9)) (cX (eM bu bY (aa 7) (ab (au (ab (ai aw (aa 1) (ai bf (eI 16) (aa 8))) (ab (ag "_law_rows" (a3 (aa 0) (aa 3) (aa 9))) ah))) ah))))
theorem Bf(h:Str × List Rw):(bG h).flat=true:=by simp[bG,PV.flat,PV.bF,bH,mD]
section
variable{pg:Tb}(T:cb pg)
include T
omit T in
theorem wB{nn:Nat}{s0 s1 s2 s3:List Str}{W:PH}(N:An W nn s0 s1 s2 s3)(c:CF)(A B:PO)(a0 a1 a2 a4 a5 a6 a7 a8 a9:Option PV): ∃ x:Str,tS x=true/\Ry c [a0,a1,a2,some (.ref (nn+1+1)),a4,a5,a6,a7,a8,a9] (A::B::W)= .ok (.str x) (A::B::(W++[.lst []])):=by
 obtain⟨b0,b1,b2,b3,e,e0,_⟩:=N.at_;have o0:=N.ok.1;have i0: ∀ X:PH,aw (.ref (nn+1+1)) (.int 0) (A::B::(W++X))= .ok (.ref (b0+1+1)) (A::B::(W++X)):=λX=>by
  have z:(A::B::(W++X))[nn+1+1]?=some (.lst [.ref (b0+1+1),.ref (b1+1+1),.ref (b2+1+1),.ref (b3+1+1)]):=(aq (aA e)).trans e;rw[jk,z,lF,q9];rfl
 have i0':=i0 [];rw[U3] at i0';have z0:(A::B::(W++[.lst []]))[b0+1+1]?=some (.lst (s0.map PV.str)):=(aq (aA e0)).trans e0;have zn:(A::B::(W++[PO.lst []]))[W.length+1+1]?=some (.lst []):=by rw[UE,UE];exact bM
 have ne:=ne_nil (h:=A::B::(W++[.lst []])) (n:=b0+1+1) (m:=W.length+1+1) (ss:=s0) z0 zn (λx m=>(o0.2 x m).2);cases s0 with
 | nil =>
  refine⟨"q",by decide +kernel,?_⟩
  simp? [Ry,i0',ne]
 | cons x r =>
  refine⟨x,(o0.2 x Uv).1,?_⟩
  have i1:aw (.ref (b0+1+1)) (.int 0) (A::B::(W++[.lst []]))= .ok (.str x) (A::B::(W++[.lst []])):=by
   rw[jk,z0,lF,Ul,q9];rfl
  have i2:=i0 [.lst []]
  simp? [Ry,i0',ne,i2,i1]
theorem xA(j:Nat)(fr:PO){np nn:Nat}{pl s0 s1 s2 s3:List Str}(hp:DD pl){J:PH}(ep:J[np]?=some (.lst (pl.map PV.str)))(N:An J nn s0 s1 s2 s3)(xs0:List PV)(e2 e4 e5 e6:Option PV) :
  ∀(aj:List Nat)(hs:List (Str × List Rw))(X:PH)(q:Int × Int × Int)(e8 e9:Option PV),(∀ i∈aj,i < 4)->hs.length+aj.length<=1000->(∀ h∈hs,kz s0 s1 s2 s3 h) ->
  ∃(hs':List (Str × List Rw))(X':PH)(q':Int × Int × Int)(f8 f9:Option PV),hs'.length=hs.length+aj.length/\(∀ h∈hs',kz s0 s1 s2 s3 h) /\
   bJ ⟨none,xs0⟩ (bA (gN 8) Rz (run pg (j+6))) (aj.map λi:Nat=>PV.int (0+(i:Int))) [some (.ref 1),some (.ref (np+1+1)),e2,some (.ref (nn+1+1)),e4,e5,e6,some (.ref (J.length+1+1)),e8,e9] (fr::aU q::(J++ .lst (hs.map bG)::X))= .ok (.nx [some (.ref 1),some (.ref (np+1+1)),e2,some (.ref (nn+1+1)),e4,e5,e6,some (.ref (J.length+1+1)),f8,f9]) (fr::aU q'::(J++ .lst (hs'.map bG)::X')):=by
 intro aj
 induction aj with
 | nil=>intro hs X q e8 e9 _ _ h;exact⟨hs,X,q,e8,e9,rfl,h,fZ⟩
 | cons i aj ih =>
  intro hs X q e8 e9 hi hl h
  rw[Um] at hl
  have i4:=hi i Uv
  have iz:(0:Int)+(i:Int)=(i:Int):=XU _
  have pl12:=hp.1
  obtain ⟨y,hy,ey⟩:=nj (ss:=pl) (v:=16+(i:Int)) (by omega) (by omega)
  obtain ⟨x,hx,ex⟩:=wB (N.app (g:= .lst (hs.map bG)::X)) (run pg (j+6)) fr (aU q) (some (.ref 1)) (some (.ref (np+1+1))) e2 e4 e5 e6 (some (.ref (J.length+1+1))) (some (.int i)) e9
  obtain ⟨w,q1,w0,w1,ew⟩:=cC T (j+5) fr q 4 (by decide) (by decide)
  let F:List Str:=["p",x, "pp",y]
  let ps:List Str:=F.take (1+w).toNat
  have hF: ∀ z∈F,tS z=true:=λz m=>by
   simp only [F,Uy,U2,or_false] at m;rcases m with rfl | rfl | rfl | rfl
   . decide +kernel
   . exact hx
   . decide +kernel
   . exact(hp.2 _ hy).1
  have cu:gD [PV.str "p",.str x,.str "pp",.str y] none (some (1+w))=ps.map PV.str:=by
   rw[P3.sJ (by omega)];show _=Zw PV.str (List.take _ F);rw[aaH];rfl
  have pl0:0 < ps.length:=by simp only[ps,F,Vo,Um,UL];omega
  have pl9:ps.length<=4:=by simp only[ps,F,Vo,Um,UL];omega
  let Y:PH:=[.lst [],.lst [.str "p",.str x,.str "pp",.str y],.lst (ps.map PV.str)]
  let W:PH:=J++ .lst (hs.map bG)::(X++Y)
  have oldJ: ∀ Z:PH,(J++Z)[np]?=some (.lst (pl.map PV.str)):=λZ=>(aq (aA ep)).trans ep
  have epW:W[J.length+(X.length+(0+1+1)+1)]?=some (.lst (ps.map PV.str)):=by
   show(J++_)[_]?=_;rw[bo,UE,bo];rfl
  obtain⟨rs,q2,r1,r2,r3⟩:=G2 T j fr (L:=ps) (ps:=ps) pl0 (by omega) (λz m=>m) q1 (J:=W) (N.app (g:= .lst (hs.map bG)::(X++Y))) epW
  have ho:kz s0 s1 s2 s3 (y,rs):=⟨r1,ps,by omega,λz m=>hF z (Yg m),r2⟩
  obtain⟨hs',X',q',f8,f9,h1,h2,h3⟩:=ih (hs++[(y,rs)]) (X++Y) q2 (some (.int i)) (some (.ref (J.length+(X.length+(0+1+1)+1)+1+1))) (λz m=>hi z (Uz _ m)) (by simp only[Uu,Um,UL];omega) (λz m=>by
   rcases Vl.mp m with m | m
   . exact h z m
   . rw[Vc.mp m];exact ho)
  refine⟨hs',X',q',f8,f9,by rw[h1];simp only[Uu,Um,UL];omega,h2,?_⟩
  have hz:(hs.map bG).length < 16777216:=by rw[Ui];omega
  have st:bA (gN 8) Rz (run pg (j+6)) (.int i) [some (.ref 1),some (.ref (np+1+1)),e2,some (.ref (nn+1+1)),e4,e5,e6,some (.ref (J.length+1+1)),e8,e9] (fr::aU q::(J++ .lst (hs.map bG)::X))= .ok (.nx [some (.ref 1),some (.ref (np+1+1)),e2,some (.ref (nn+1+1)),e4,e5,e6,some (.ref (J.length+1+1)),some (.int i),some (.ref (J.length+(X.length+(0+1+1)+1)+1+1))]) (fr::aU q2::(J++ .lst (hs.map bG++[bG (y,rs)])::(X++Y))):=by
   simp only[W,Y] at r3;simp only[Vq,UT] at ex;simp? [Rz,Y,ex,oldJ,ey,ew,cu,r3,pY hz,bG]
  rw[Ul,dh,iz,st,cB,bS]
  rw[Vh,Ul,UU] at h3
  exact h3
end
structure RP(bs:List (Str × Int))(s1 s2 s3:List Str)(hs:List (Str × List Rw))(p:PV):Prop where
 at_:p= .tup [.tup (bs.map cO),.tup (s1.map PV.str),.tup (s2.map PV.str),.tup (s3.map PV.str),.tup (hs.map bG)]
 bx:bs.length<=20/\ ∀ z∈bs,tS z.1=true/\0<=z.2/\z.2<=999
 nm:Bq s1/\Bq s2/\Bq s3
 many:1<=hs.length/\hs.length<=4
 hd: ∀ h∈hs,kz (bs.map (·.1)) s1 s2 s3 h
theorem rU: ∀ ss:List Str,PV.bF (ss.map PV.str)=true
 | []=>rfl
 | _::r=>by rw[Ul,PV.bF,rU r];rfl
theorem o8: ∀ hs:List (Str × List Rw),PV.bF (hs.map bG)=true
 | []=>rfl
 | h::r=>by rw[Ul,PV.bF,Bf,o8 r];rfl
noncomputable def wC:MS:=(ae (ak (eB aN (ab (jT 1 (j7 (eX 3 0)) (gN 10) aP RG) ah)) (gN 6)) (ae (ak (bN ah) (gN 7)) (ae (jv (de (ab (ai aw (bN (ab (eI 2) (ab (eI 2) (ab (eI 3) (a3 (eI 4) (eI 1) (eI 2)))))) (ag "_law_take" (a2 (aa 0) (eI 6)))) ah)) (gN 8) Rz) (ay (au (ab (aa 6) (ab (eB aN (a1 (eX 3 1))) (ab (eB aN (a1 (eX 3 2))) (ab (eB aN (a1 (eX 3 3))) (ab (eB aN (a1 (aa 7))) ah))))))))))
section
variable{pg:Tb}(T:cb pg)
include T
theorem Gm(j:Nat)(fr:PO){np nn:Nat}{pl s0 s1 s2 s3:List Str}(hp:DD pl){J:PH}(ep:J[np]?=some (.lst (pl.map PV.str)))(N:An J nn s0 s1 s2 s3)(q:Int × Int × Int)(e2 e4 e5:Option PV) :
  ∃(bs:List (Str × Int))(hs:List (Str × List Rw))(p:PV)(q':Int × Int × Int)(X:PH),RP bs s1 s2 s3 hs p/\wC (run pg (j+6)) [some (.ref 1),some (.ref (np+1+1)),e2,some (.ref (nn+1+1)),e4,e5,none,none,none,none] (fr::aU q::J)= .ok (.rt p) (fr::aU q'::(J++X)):=by
 obtain⟨b0,b1,b2,b3,e,x0,x1,x2,x3⟩:=N.at_;obtain⟨o0,o1,o2,o3⟩:=N.ok;obtain⟨bs,X1,q1,h1,h2,h3⟩:=De T (j+5) fr (b:=b0) (s0:=s0) (some (.ref (np+1+1))) e2 (some (.ref (nn+1+1))) e4 e5 none none none none s0 [] J q x0 (by have:=o0.1;simp;omega);rw[UR] at h3
 let J2:PH:=J++(X1++[.lst (bs.map cO)])
 obtain⟨a,q2,a0,a1,ea⟩:=cC T (j+5) fr q1 6 (by decide) (by decide);obtain⟨m,mm,em⟩:=yi (xs:=[2,2,3,4,1,2]) a0 (by simpa using a1);have em':dS [PV.int 2,.int 2,.int 3,.int 4,.int 1,.int 2] a=some (.int m):=em;have hm:1<=m/\m<=4:=by
  simp only[Uy,U2,or_false] at mm;omega
 have old: ∀{n:Nat}{o:PO}(Y:PH),J[n]?=some o->(J++Y)[n]?=some o:=λY e=>(aq (aA e)).trans e;obtain⟨hs,X2,q3,f8,f9,i1,i2,i3⟩:=xA T j fr hp (J:=J2) (old _ ep) N.app (aE 0 m.toNat) e2 e4 e5 (some (.tup (bs.map cO))) (Vn m.toNat) [] [.lst [.int 2,.int 2,.int 3,.int 4,.int 1,.int 2]] q2 none none (λi z=>by have:=Wm.mp z;omega) (by simp;omega) (λh z=>nomatch z);rw[show(Vn m.toNat).map (λi:Nat=>PV.int (0+(i:Int)))=aE 0 m.toNat from rfl] at i3;rw[WH,UL,Xi] at i1;refine⟨bs,hs,_,q3,X1++ .lst (bs.map cO):: .lst (hs.map bG)::X2,⟨rfl,⟨?_,?_⟩,⟨o1,o2,o3⟩,by omega,by rw[h1];exact i2⟩,?_⟩
 . have:=congrArg abv h1;rw[Ui] at this;rw[this];exact o0.1
 . intro z mz;have:=h2 z mz;exact⟨(o0.2 z.1 (by rw[<- h1];exact UZ.mpr ⟨z,mz,rfl⟩)).1,this⟩
 . have w: ∀(Y:PH)(i:Int)(b:Nat),dS [PV.ref (b0+1+1),.ref (b1+1+1),.ref (b2+1+1),.ref (b3+1+1)] i=some (.ref (b+1+1))-> ∀ A B:PO,aw (.ref (nn+1+1)) (.int i) (A::B::(J++Y))= .ok (.ref (b+1+1)) (A::B::(J++Y)):=λY i b z A B=>by
    have z2:(A::B::(J++Y))[nn+1+1]?=_:=old Y e;rw[jk,z2,lF,z];rfl
   have tu: ∀(Y:PH)(b:Nat)(ss:List Str),J[b]?=some (.lst (ss.map PV.str))-> ∀ A B:PO,aN [.ref (b+1+1)] (A::B::(J++Y))= .ok (.tup (ss.map PV.str)) (A::B::(J++Y)):=λY b ss z A B=>by
    have z2:(A::B::(J++Y))[b+1+1]?=_:=old Y z;rw[tD,z2,p7]
   have w0:=w [] 0 b0 q9;rw[U3] at w0;have l0: ∀ A B:PO,(A::B::J)[b0+1+1]?=some (.lst (s0.map PV.str)):=λA B=>x0;simp only[J2,UU,UT,Vq,UR,Uu,Um,UL] at i3;simp? [wC,w0,l0,x0,h3,ea,em',i3,w _ 1 b1 xC,w _ 2 b2 x8,w _ 3 b3 Dz,tu _ b1 s1 x1,tu _ b2 s2 x2,tu _ b3 s3 x3]
end
section
variable{pg:Tb}(T:cb pg)
include T
theorem pZ(j:Nat)(fr:PO)(q:Int × Int × Int)(g:PH) :
  ∃(bs:List (Str × Int))(s1 s2 s3:List Str)(hs:List (Str × List Rw))(p:PV)(q':Int × Int × Int),RP bs s1 s2 s3 hs p/\run pg (j+7) "_law_program" [.ref 1] (fr::aU q::g)= .ok p (fr::aU q'::g):=by
 let g2:PH:=g++[.lst (Mn.map PV.str),.lst (P8.map PV.str)]
 obtain⟨t,q1,t0,t1,et⟩:=cC T (j+5) fr q 20 (by decide) (by decide);have c1:gD (mG.map PV.str) (some t) none=(mG.drop t.toNat).map PV.str:=by rw[P3.lG t0,abQ]
 have c2:gD (mG.map PV.str) none (some t)=(mG.take t.toNat).map PV.str:=by rw[P3.sJ t0,aaH]
 let pl:List Str:=mG.drop t.toNat++mG.take t.toNat
 have hp:DD pl:=by
  refine⟨?_,λx m=>?_⟩
  . have:mG.length=20:=rfl;simp only[pl,Uu,V1,Vo,this];omega
  . rcases Vl.mp m with m | m
    . exact DP x (aar m)
    . exact DP x (Yg m)
 let J1:PH:=g2++[.lst (mG.map PV.str),.lst ((mG.drop t.toNat).map PV.str),.lst ((mG.take t.toNat).map PV.str),.lst (pl.map PV.str)]
 have ep:J1[g2.length+(0+1+1+1)]?=some (.lst (pl.map PV.str)):=by show(g2++_)[_]?=_;rw[bo];rfl
 have lJ:J1.length=g2.length+(0+1+1+1+1):=by simp[J1]
 obtain⟨refs,X,q2,f4,f5,h1,h2,h3⟩:=wL T (j+5) fr hp ep (aE 0 4) (some (.int t)) none none none none [0,1,2,3] [] [] q1 none none (by decide) (λr m=>nomatch m);obtain⟨r0,r1,r2,r3,rfl⟩: ∃ r0 r1 r2 r3,refs=[r0,r1,r2,r3]:=by
  match refs,h1 with
  | [a,b,c,d],_=>exact⟨a,b,c,d,rfl⟩
 have at_: ∀(Y:PO)(i:Nat),(J1++Y::X)[J1.length+1+i]?=X[i]?:=λY i=>by rw[Yb,bo,XR 1 i,UE]
 obtain⟨i0,s0,rfl,z0,n0⟩:=h2 r0 (.head _);obtain⟨i1,s1,rfl,z1,n1⟩:=h2 r1 (.tail _ (.head _));obtain⟨i2,s2,rfl,z2,n2⟩:=h2 r2 (.tail _ (.tail _ (.head _)));obtain⟨i3,s3,rfl,z3,n3⟩:=h2 r3 (.tail _ (.tail _ (.tail _ (.head _))));have N:An (J1++ .lst [.ref (J1.length+1+i0+1+1),.ref (J1.length+1+i1+1+1),.ref (J1.length+1+i2+1+1),.ref (J1.length+1+i3+1+1)]::X) J1.length s0 s1 s2 s3 :=
  ⟨⟨_,_,_,_,bM,(at_ _ i0).trans z0,(at_ _ i1).trans z1,(at_ _ i2).trans z2,(at_ _ i3).trans z3⟩,n0,n1,n2,n3⟩
 obtain⟨bs,hs,p,q3,Z,pk,tl⟩:=Gm T j fr hp ((aq (aA ep)).trans ep) N q2 (some (.int t)) f4 f5;refine⟨bs,s1,s2,s3,hs,p,q3,pk,?_⟩;have pf:p.flat=true:=by
  rw[pk.at_];simp only[PV.flat,PV.bF,jF,rU,o8,Xu]
 have ad:bf (.ref (g2.length+(0+1)+1+1)) (.ref (g2.length+(0+1+1)+1+1)) (fr::aU q1::(g2++[.lst (mG.map PV.str),.lst ((mG.drop t.toNat).map PV.str),.lst ((mG.take t.toNat).map PV.str)]))= .ok (.ref (g2.length+(0+1+1+1)+1+1)) (fr::aU q1::J1):=by
  have e1:(fr::aU q1::(g2++[PO.lst (mG.map PV.str),.lst ((mG.drop t.toNat).map PV.str),.lst ((mG.take t.toNat).map PV.str)]))[g2.length+(0+1)+1+1]?=some (.lst ((mG.drop t.toNat).map PV.str)):=by rw[UE,UE,bo];rfl
  have e2:(fr::aU q1::(g2++[PO.lst (mG.map PV.str),.lst ((mG.drop t.toNat).map PV.str),.lst ((mG.take t.toNat).map PV.str)]))[g2.length+(0+1+1)+1+1]?=some (.lst ((mG.take t.toNat).map PV.str)):=by rw[UE,UE,bo];rfl
  refine(og e1 e2 (by simp only[Ui,V1,Vo];have:mG.length=20:=rfl;omega)).trans ?_;simp[J1,pl]
 have A:gb (run pg (j+6)) [some (.ref 1),none,none,none,none,none,none,none,none,none] (fr::aU q::g)= .ok (.rt p) (fr::aU q3::(J1++ .lst [.ref (J1.length+1+i0+1+1),.ref (J1.length+1+i1+1+1),.ref (J1.length+1+i2+1+1),.ref (J1.length+1+i3+1+1)]::X++Z)):=by
  show ae _ (ae _ (ae _ (ae _ (ae _ (ae _ wC))))) _ _ _=_;refine(aT (e1:=[some (.ref 1),some (.ref (g.length+1+1)),none,none,none,none,none,none,none,none]) (h1:=fr::aU q::(g++[.lst (Mn.map PV.str)])) ?_).trans ?_
  . simp? [UU];rfl
  refine(aT (e1:=[some (.ref 1),some (.ref (g2.length+1+1)),none,none,none,none,none,none,none,none]) (h1:=fr::aU q::(g2++[.lst (mG.map PV.str)])) ?_).trans ?_
  . have ad0:bf (.ref (g.length+1+1)) (.ref (g.length+(0+1)+1+1)) (fr::aU q::(g++[.lst (Mn.map PV.str),.lst (P8.map PV.str)]))= .ok (.ref (g2.length+1+1)) (fr::aU q::(g2++[.lst (mG.map PV.str)])):=by
     have e1:(fr::aU q::(g++[PO.lst (Mn.map PV.str),.lst (P8.map PV.str)]))[g.length+1+1]?=some (.lst (Mn.map PV.str)):=by rw[UE,UE];exact bM
     have e2:(fr::aU q::(g++[PO.lst (Mn.map PV.str),.lst (P8.map PV.str)]))[g.length+(0+1)+1+1]?=some (.lst (P8.map PV.str)):=by rw[UE,UE,bo];rfl
     refine(og e1 e2 (by decide)).trans ?_;simp[g2,mG]
    have l8:(.lst [.str "boxes",.str "locks",.str "lanes",.str "doors",.str "d",.str "taken",.str "abcd",.str "lots"]:PO)= .lst (P8.map PV.str):=rfl;simp? [l8,ad0]
  refine(aT (e1:=[some (.ref 1),some (.ref (g2.length+1+1)),some (.int t),none,none,none,none,none,none,none]) (h1:=fr::aU q1::(g2++[.lst (mG.map PV.str)])) ?_).trans ?_
  . simp? [et]
  refine(aT (e1:=[some (.ref 1),some (.ref (g2.length+(0+1+1+1)+1+1)),some (.int t),none,none,none,none,none,none,none]) (h1:=fr::aU q1::J1) ?_).trans ?_
  . simp? [c1,c2,ad]
  refine(aT (e1:=[some (.ref 1),some (.ref (g2.length+(0+1+1+1)+1+1)),some (.int t),some (.ref (J1.length+1+1)),none,none,none,none,none,none]) (h1:=fr::aU q1::(J1++[.lst []])) ?_).trans ?_
  . simp? [UU]
  refine(aT (h1:=fr::aU q2::(J1++ .lst [.ref (J1.length+1+i0+1+1),.ref (J1.length+1+i1+1+1),.ref (J1.length+1+i2+1+1),.ref (J1.length+1+i3+1+1)]::X)) ?_).trans tl;have r4:aE 0 (4:Int).toNat=aE 0 4:=rfl;unfold Rm at h3;simp? [↓m7,↓oF,lQ,cB,jV,r4];exact h3
 rw[run_eq T.o6 rfl];show fin _ (gb (run pg (j+6)) [some (.ref 1),none,none,none,none,none,none,none,none,none] (fr::aU q::g))=_;rw[A,jx];show P3.settle _ _ (fr::aU q3::(g++_++_++_++_))=_;rw[UT,UT,UT];exact dX pf
end
noncomputable def qU (a b:Int):List (Key × PV):=[(.inr "add",.int (a+b)),(.inr "sub",.int (a - b)),(.inr "mul",.int (a*b))]
theorem AK (a b:Int):bW [] (qU a b)=qU a b:=by simp [qU,bW,cM,aO]
theorem uH (a:Str) (h:PH):iW (.str a) (.tup [.str "less",.str "same"]) h= .ok (.bl (decide (a∈(["less", "same"]:List Str)))) h:=xq (ss:=["less", "same"])
theorem Mu (o:Bo) (a b:Int):(o= .less∨o= .same)∨(¬ o.w∈(["less", "same"]:List Str)∧ ∃ n:Int,bT (qU a b) (.inr o.w)=some (.int n)∧n % 1000=o.f a b):=by
 cases o with
 | less=>exact .inl (.inl rfl)
 | same=>exact .inl (.inr rfl)
 | add=>exact .inr ⟨by simp only[Bo.w];decide +kernel,_,by simp[qU,bT,Bo.w,aO],rfl⟩
 | sub=>exact .inr ⟨by simp only[Bo.w];decide +kernel,_,by simp[qU,bT,Bo.w,aO],rfl⟩
 | mul=>exact .inr ⟨by simp only[Bo.w];decide +kernel,_,by simp[qU,bT,Bo.w,aO],rfl⟩
section
variable{pg:Tb}(T:cb pg)
include T
theorem pM{D:Pk}{n:Nat}(hf: ∀ x,0<=fP D x/\fP D x<=999): ∀(e:Sm)(k:Nat)(h:PH),h[n]?=some (.dct (cQ D))->e.ok->e.dp<=k->run pg (k+1) "_law_worth" [hZ e,.ref n] h= .ok (.int (e.val (fP D))) h
 | .num i,k,h,hn,_,_=>by
  rw[run_eq T.fJ rfl];simp? [aX,bC,hZ,Sm.val]
 | .of x,k,h,hn,_,_=>by
  have g:=xE D x;rw[run_eq T.fJ rfl];simp? [aX,bC,hZ,Sm.val,hn,g]
 | .un a,0,h,hn,_,hd=>by unfold Sm.dp at hd;omega
 | .un a,k+1,h,hn,ok,hd=>by
  have i1:=pM hf a k h hn ok (by unfold Sm.dp at hd;omega);have sm:hZ (.un a)= .tup [.str "not",hZ a]:=rfl;rw[run_eq T.fJ rfl,sm,Sm.val];by_cases z:a.val (fP D)=0
  . simp? [aX,bC,i1,z]
  . simp? [aX,bC,i1,z]
 | .bin o a b,0,h,hn,_,hd=>by unfold Sm.dp at hd;omega
 | .bin o a b,k+1,h,hn,ok,hd=>by
  have i1:=pM hf a k h hn ok.1 (by unfold Sm.dp at hd;omega);have i2:=pM hf b k h hn ok.2 (by unfold Sm.dp at hd;omega);have sm:hZ (.bin o a b)= .tup [.str o.w,hZ a,hZ b]:=rfl;have n1: ¬ o.w= "num" /\ ¬ o.w= "of" /\ ¬ o.w= "not" :=by cases o<;>(simp only[Bo.w];decide +kernel)
  have va:=Sm.nh hf a ok.1;rw[run_eq T.fJ rfl,sm,Sm.val];generalize a.val (fP D)=x at i1 va;generalize b.val (fP D)=y at i2;rcases Mu o x y with (rfl | rfl) | ⟨z,n,z1,z2⟩
  . have m1:(UC "less")∈(["less", "same"]:List Str):=by decide +kernel
    by_cases c:x < y
    . simp? [aX,bC,Bo.w,Bo.f,i1,i2,uH,m1,c]
    . simp? [aX,bC,Bo.w,Bo.f,i1,i2,uH,m1,c]
  . have m1:(UC "same")∈(["less", "same"]:List Str):=by decide +kernel
    by_cases c:x=y
    . simp? [aX,bC,Bo.w,Bo.f,i1,i2,uH,m1,c]
    . simp? [aX,bC,Bo.w,Bo.f,i1,i2,uH,m1,c]
  . have dk:Oa h.length [((.inr "add" :Key),PV.int (x+y)),(.inr "sub",.int (x - y)),(.inr "mul",.int (x*y))] (h++[.dct []])= .ok (.ref h.length) (h++[.dct (qU x y)]):=by
     have:=yO (h:=h) (kvs:=qU x y) (by simp[qU]);rw[AK] at this;exact this
    rw[<- z2];simp? [aX,bC,n1.1,n1.2.1,n1.2.2,i1,i2,uH,z,lA,pQ,k4,oV,pj,oG,dk,z1];exact cj rfl
omit T in
theorem Qy{h:PH}{n:Nat}{ss:List Str}(e:h[n]?=some (.lst (ss.map PV.str)))(a:Str):iW (.str a) (.ref n) h= .ok (.bl (decide (a∈ss))) h:=by
 have:isIn (.str a) (.ref n) h=some (decide (a∈ss)):=by
  unfold isIn;simp only[itemsOf,cV,e,all_strs,fO,Xu,if_true,ji]
 unfold iW;rw [this]
theorem Ip (k:Nat) (h:PH) (r:Rw) {n:Nat} {hl held:List Str} (e:h[n]?=some (.lst (hl.map PV.str))) (hm: ∀ y,y∈hl↔y∈held):run pg (k+1) "_law_is_own" [br r,.ref n] h= .ok (.bl (own held r)) h:=by
 have r0:=λg=>rw_0 r g;have il: ∀ a:Str,iW (.str a) (.tup [.str "let",.str "leap"]) h= .ok (.bl (decide (a∈(["let", "leap"]:List Str)))) h:=λa=>xq (ss:=["let", "leap"]);have ie:=Qy e;have eb: ∀ b c:Bool,oz (.bl b) (.bl c) h= .ok (.bl (b == c)) h:=λb c=>by cases b<;>cases c<;>rfl
 rw [run_eq T.qN rfl];cases r with
 | take l=>simp? [cE,eR,br,Rw.w,Rw.ps,ie,eb,own,hm];simp
 | free l=>simp? [cE,eR,br,Rw.w,Rw.ps,ie,eb,own,hm];simp
 | _=>simp? [cE,eR,r0,br,Rw.w,Rw.ps,il,own,Uy,U2,or_false,or_true,true_or,false_or]
end
theorem set_same{h:PH}{n:Nat}{o:PO}(e:h[n]?=some o):h.set n o=h:=by
 obtain⟨l,e⟩:=Uh.mp e;rw[<- e];exact Z8 l
theorem nc{h:PH}{n:Nat}{o:PO}(l:n < h.length):(h.set n o)[n]?=some o:=by rw[U1 l]
theorem bp{h:PH}{n m:Nat}{o:PO}(ne:n≠m):(h.set n o)[m]?=h[m]?:=Vm ne
noncomputable def rT:MT:=(s9 (aM (ai D6 (aa 1) (eB cD (a1 (aa 0))))) (aM (ag "_law_is_own" (ab (ai aw (aa 0) (aa 1)) (a1 (aa 3))))))
noncomputable def rA:MS:=(ae (b6 (mQ (eX 5 0) (eS "let")) (eJ dI (aa 2) (eX 5 1) (ag "_law_worth" (a2 (eX 5 2) (aa 2)))) cP) (b6 (s9 (mQ (eX 5 0) (eS "leap")) (aM (ai iV (ag "_law_worth" (a2 (eX 5 2) (aa 2))) (eI 0)))) (ak (eX 5 1) (gN 1)) cP))
noncomputable def rB:MS:=(ae (b6 (mQ (aa 4) (eI 200)) (ay (eB cD (a1 (aa 0)))) cP) (ae (ak (ai aw (aa 0) (aa 1)) (gN 5)) (ae (ak (ai bf (aa 4) (eI 1)) (gN 4)) (ae (ak (ai bf (aa 1) (eI 1)) (gN 1)) rA))))
theorem oB{L:List Str}{D:Pk}(hL:L.length<=20)(h:oI L D):(cQ D).length < 16777216:=by unfold cQ;rw[Ui];have:=h.len;omega
section
variable{pg:Tb}(T:cb pg)
include T
theorem Q2(k:Nat){h:PH}{d:Nat}{L:List Str}(hL:L.length<=20){rs:List Rw}{t:aF}{r:Rw}{D:Pk}(ed:h[d]?=some (.dct (cQ D)))(e:rs[t.row]?=some r)(ho:own t.held r=true)(hr:eU L rs.length r)(hD:oI L D)(hf: ∀ x,fP D x=fP t.ps x)(nd:(t.ps.map (·.1)).Nodup)(u3 u4:Option PV) :
  ∃ D':Pk,oI L D'/\(∀ x,fP D' x=fP (behind t r).ps x)/\rA (run pg (k+9)) [some (bH rs),some (.int ((t.row:Int)+1)),some (.ref d),u3,u4,some (br r)] h= .ok (.nx [some (bH rs),some (.int (behind t r).row),some (.ref d),u3,u4,some (br r)]) (h.set d (.dct (cQ D'))):=by
 have ff:fP D=fP t.ps:=funext hf;have w: ∀ e0:Sm,jC e0->run pg (k+9) "_law_worth" [hZ e0,.ref d] h= .ok (.int (e0.val (fP t.ps))) h:=λe0 he=>by
  rw[<- ff];exact pM T hD.rR e0 (k+8) _ ed he.1 (by have:=he.2;omega)
 have hl9:=oB hL hD;have up:(t.row:Int)+1=((t.row+1:Nat):Int):=by omega
 cases r with
 | let_ x e0 =>
  have hv:=Sm.nh (f:=fP t.ps) (by rw[<- ff];exact hD.rR) e0 hr.2.1
  refine⟨putD D x (e0.val (fP t.ps)),oD hD hr.1 hv.1 hv.2,λy=>by rw[oq,behind,sH nd,hf],?_⟩
  simp? [rA,br,Rw.w,Rw.ps,w e0 hr.2,ed,kg hl9,jJ,behind,up]
 | leap j e0 =>
  refine⟨D,hD,λy=>?_,?_⟩
  . rw[hf];show _=fP (if e0.val (fP t.ps)=0 then(⟨t.row+1,t.ps,t.held⟩:aF) else⟨j.toNat,t.ps,t.held⟩).ps y;split<;>rfl
  . rw[set_same ed];by_cases z:e0.val (fP t.ps)=0
    . simp? [rA,br,Rw.w,Rw.ps,w e0 hr.2.2,behind,z,up]
    . have jj:((j.toNat:Nat):Int)=j:=by have:=hr.1;omega
      simp? [rA,br,Rw.w,Rw.ps,w e0 hr.2.2,behind,z,jj]
 | take l=>exact⟨D,hD,hf,by rw[set_same ed];simp? [rA,br,Rw.w,Rw.ps,behind,up]⟩
 | free l=>exact⟨D,hD,hf,by rw[set_same ed];simp? [rA,br,Rw.w,Rw.ps,behind,up]⟩
 | _=>exact nomatch ho
theorem zF(k:Nat){d l:Nat}(dl:d≠l){hl:List Str}{L:List Str}(hL:L.length<=20){rs:List Rw}(hr: ∀ r∈rs,eU L rs.length r): ∀(m i:Nat)(t:aF)(D:Pk)(h:PH)(u5:Option PV)(f:Nat),i+m=200->m+2<=f->h[d]?=some (.dct (cQ D))->h[l]?=some (.lst (hl.map PV.str))->(∀ y,y∈hl↔y∈t.held)->dq L rs t->oI L D->(∀ x,fP D x=fP t.ps x) ->
  ∃(D':Pk)(fl:Fl),oI L D'/\(∀ x,fP D' x=fP (bh rs m t).ps x)/\(fl= .rt (.int (bh rs m t).row)\/ ∃ u2 u3 u4 u5,fl= .nx [some (bH rs),some (.int (bh rs m t).row),u2,u3,u4,u5]) /\
  dE (rT (run pg (k+9))) (rB (run pg (k+9))) f [some (bH rs),some (.int t.row),some (.ref d),some (.ref l),some (.int i),u5] h= .ok fl (h.set d (.dct (cQ D'))):=by
 have ln: ∀ h,cD [bH rs] h= .ok (.int rs.length) h:=λh=>by unfold bH;rw[len_T,Ui]
 have ix: ∀{t:aF}{r:Rw}(h:PH),rs[t.row]?=some r->aw (bH rs) (.int t.row) h= .ok (br r) h:=λh e=>kC (hV e);have stop: ∀(i:Nat)(t:aF)(h:PH)(u5:Option PV)(f:Nat),h[l]?=some (.lst (hl.map PV.str))->(∀ y,y∈hl↔y∈t.held)->bw rs t=true->dE (rT (run pg (k+9))) (rB (run pg (k+9))) (f+1) [some (bH rs),some (.int t.row),some (.ref d),some (.ref l),some (.int i),u5] h= .ok (.nx [some (bH rs),some (.int t.row),some (.ref d),some (.ref l),some (.int i),u5]) h:=λi t h u5 f el hm r1=>by
  refine Ie ?_;cases e:rs[t.row]? with
  | none =>
   have z: ¬ (t.row:Int) < (rs.length:Int):=by have:=VE.mp e;omega
   simp? [rT,ln,z]
  | some r =>
   have lt:=(Uh.mp e).1
   have z:(t.row:Int) < (rs.length:Int):=by omega
   have ow:=Ip T (k+8) h r el hm
   have on:own t.held r=false:=by unfold bw at r1;rw[e] at r1;simpa using r1
   rw[on] at ow
   simp? [rT,ln,z,ix h e,ow]
 have go: ∀(i:Nat)(t:aF)(h:PH)(u5:Option PV)(r:Rw),h[l]?=some (.lst (hl.map PV.str))->(∀ y,y∈hl↔y∈t.held)->rs[t.row]?=some r->own t.held r=true->rT (run pg (k+9)) [some (bH rs),some (.int t.row),some (.ref d),some (.ref l),some (.int i),u5] h= .ok true h:=λi t h u5 r el hm e ho=>by
  have lt:=(Uh.mp e).1;have z:(t.row:Int) < (rs.length:Int):=by omega
  have ow:=Ip T (k+8) h r el hm;rw[ho] at ow;simp? [rT,ln,z,ix h e,ow]
 intro m
 induction m with
 | zero =>
  intro i t D h u5 f hi hf ed el hm hs hD hp
  obtain⟨f,rfl⟩: ∃ j,f=j+1:=⟨f - 1,by omega⟩
  cases r1:bw rs t with
  | true =>
   have fr:bh rs 0 t=t:=by unfold bh;rw[if_pos r1]
   exact⟨D,_,hD,by rw[fr];exact hp,.inr ⟨_,_,_,_,by rw[fr]⟩,by rw[set_same ed];exact stop i t h u5 f el hm r1⟩
  | false =>
   obtain⟨r,e,ho⟩:=ph r1
   have fr:bh rs 0 t=⟨rs.length,t.ps,t.held⟩:=by unfold bh;rw[if_neg (by simp[r1])]
   have i200:(i:Int)=200:=by omega
   refine⟨D,.rt (.int rs.length),hD,by rw[fr];exact hp,.inl (by rw[fr]),?_⟩
   rw[set_same ed,dE,go i t h u5 r el hm e ho,cH,if_pos rfl]
   have st:rB (run pg (k+9)) [some (bH rs),some (.int t.row),some (.ref d),some (.ref l),some (.int i),u5] h= .ok (.rt (.int rs.length)) h:=by
    simp? [rB,i200,ln]
   rw[st,cH]
 | succ m ih =>
  intro i t D h u5 f hi hf ed el hm hs hD hp
  obtain⟨f,rfl⟩: ∃ j,f=j+1:=⟨f - 1,by omega⟩
  cases r1:bw rs t with
  | true =>
   have fr:bh rs (m+1) t=t:=by unfold bh;rw[if_pos r1]
   exact⟨D,_,hD,by rw[fr];exact hp,.inr ⟨_,_,_,_,by rw[fr]⟩,by rw[set_same ed];exact stop i t h u5 f el hm r1⟩
  | false =>
   obtain⟨r,e,ho⟩:=ph r1
   have hrr:=hr r (Uq e)
   have fr:bh rs (m+1) t=bh rs m (behind t r):=by
    rw[bh,if_neg (by simp[r1]),e]
   obtain⟨D1,a1,a2,a3⟩:=Q2 T k hL ed e ho hrr hD hp hs.pk.nd (some (.ref l)) (some (.int ((i+1:Nat):Int)))
   obtain⟨D',fl,b1,b2,b3,b4⟩:=ih (i+1) (behind t r) D1 (h.set d (.dct (cQ D1))) (some (br r)) f (by omega) (by omega) (nc (aA ed)) ((bp dl).trans el) (by rw[nN];exact hm) (jQ hs hrr e) a1 a2
   refine⟨D',fl,b1,by rw[fr];exact b2,by rw[fr];exact b3,?_⟩
   have i200: ¬ (i:Int)=200:=by omega
   have up:(i:Int)+1=((i+1:Nat):Int):=by omega
   rw[Qh (go i t h u5 r el hm e ho) (e1:=[some (bH rs),some (.int (behind t r).row),some (.ref d),some (.ref l),some (.int ((i+1:Nat):Int)),some (br r)]) (h2:=h.set d (.dct (cQ D1))) ?_]
   . rw[b4,List.set_set]
   . simp? [rB,i200,ix h e,up,a3]
theorem yY(k:Nat)(h:PH){d l:Nat}(dl:d≠l){hl L:List Str}(hL:L.length<=20){rs:List Rw}(hr: ∀ r∈rs,eU L rs.length r){t:aF}{D:Pk}(ed:h[d]?=some (.dct (cQ D)))(el:h[l]?=some (.lst (hl.map PV.str)))(hm: ∀ y,y∈hl↔y∈t.held)(hs:dq L rs t)(hD:oI L D)(hp: ∀ x,fP D x=fP t.ps x): ∃ D':Pk,oI L D'/\(∀ x,fP D' x=fP (bh rs 200 t).ps x) /\
  run pg (k+10) "_law_rest" [bH rs,.int t.row,.ref d,.ref l] h= .ok (.int (bh rs 200 t).row) (h.set d (.dct (cQ D'))):=by
 obtain⟨D',fl,a1,a2,a3,a4⟩:=zF T k dl hL hr 200 0 t D h none 100000 (by decide) (by decide) ed el hm hs hD hp;refine⟨D',a1,a2,?_⟩;rw[run_eq T.ve rfl];have a4':dE (rT (run pg (k+9))) (rB (run pg (k+9))) 100000 [some (bH rs),some (.int t.row),some (.ref d),some (.ref l),some (.int 0),none] h= .ok fl (h.set d (.dct (cQ D'))):=a4;unfold rT rB rA at a4';have se: ∀ v:PV,P3.settle h v (h.set d (.dct (cQ D')))= .ok v (h.set d (.dct (cQ D'))):=λv=>nK (o:= .dct (cQ D));rcases a3 with rfl | ⟨u2,u3,u4,u5,rfl⟩
 . simp? [eT,jy,Jh,a4',se]
 . simp? [eT,jy,Jh,a4',se]
end
structure Pg where
 bs:List (Str × Int)
 s1:List Str
 s2:List Str
 s3:List Str
 hs:List (Str × List Rw)
noncomputable def Pg.v(P:Pg):PV:= .tup [.tup (P.bs.map cO),.tup (P.s1.map PV.str),.tup (P.s2.map PV.str),.tup (P.s3.map PV.str),.tup (P.hs.map bG)]
noncomputable def Pg.nm(P:Pg):Nat->List Str:=LV (P.bs.map (·.1)) P.s1 P.s2 P.s3
structure Pg.Ok(P:Pg):Prop where
 bx:P.bs.length<=20/\ ∀ z∈P.bs,tS z.1=true/\0<=z.2/\z.2<=999
 nm:Bq P.s1/\Bq P.s2/\Bq P.s3
 many:1<=P.hs.length/\P.hs.length<=4
 hd: ∀ h∈P.hs,kz (P.bs.map (·.1)) P.s1 P.s2 P.s3 h
theorem RP.pg{bs:List (Str × Int)}{s1 s2 s3:List Str}{hs:List (Str × List Rw)}{p:PV}(h:RP bs s1 s2 s3 hs p):p=Pg.v ⟨bs,s1,s2,s3,hs⟩/\Pg.Ok ⟨bs,s1,s2,s3,hs⟩:=⟨h.at_,h.bx,h.nm,h.many,h.hd⟩
theorem Pg.hand(P:Pg){i:Nat}{x:Str × List Rw}(e:P.hs[i]?=some x):mN P.v (i:Int) x.2:=⟨_,_,_,_,_,_,rfl,P3.cZ rfl (by rw[UA,e];rfl)⟩
noncomputable def DA(x:Str × List Rw)(L:List Str):Prop:=L.length<=6/\(∀ y∈L,tS y=true)/\ ∀ r∈x.2,eU L x.2.length r
noncomputable def F0(x:Str × List Rw):List Str:=Classical.epsilon (DA x)
theorem dR{s0 s1 s2 s3:List Str}{x:Str × List Rw}(h:kz s0 s1 s2 s3 x):DA x (F0 x):=by
 obtain⟨_,L,l1,l2,l3⟩:=h;exact Classical.epsilon_spec (p:=DA x) ⟨L,l1,l2,λr m=>(l3 r m).1⟩
structure Wd where
 cA:List Int
 aW:List aF
 ig:List (Int × PV)
 ee:List (Option Int × PV)
 cY:List (Int × Int × List Int)
 jY:List Int
noncomputable def gO(b:Int × PV):PV:= .tup [.int b.1,b.2]
noncomputable def NB:Option Int->PV
 | none=> .non
 | some i=> .int i
noncomputable def fz(l:Option Int × PV):PV:= .tup [NB l.1,l.2]
noncomputable def fu(n:Int × Int × List Int):PV:= .tup [.int n.1,.int n.2.1,.tup (n.2.2.map PV.int)]
noncomputable def aS(S:Wd):PV:= .tup [.tup (S.cA.map PV.int),.tup (S.aW.map az),.tup (S.ig.map gO),.tup (S.ee.map fz),.tup (S.cY.map fu),.tup (S.jY.map PV.int)]
noncomputable def sI(N:Nat)(v:PV):Prop:=v= .non\/ ∃ a b:Int,v= .tup [.int a,.int b]/\0<=a/\a < 4/\0<=b/\b<=N
theorem sI.flat{N:Nat}{v:PV}(h:sI N v):v.flat=true:=by
 rcases h with rfl | ⟨a,b,rfl,_⟩<;>rfl
structure Px(P:Pg)(N:Nat)(x:Str × List Rw)(s:aF):Prop where
 so:dq (F0 x) x.2 s
 nd:s.held.Nodup
 le:s.held.length<=N
 re:bw x.2 s=true
 nm: ∀ l∈s.held,l∈P.s1
 sr:s.held.Pairwise iT
structure gQ(P:Pg)(N:Nat)(S:Wd):Prop where
 lc:S.cA.length=P.hs.length
 ls:S.aW.length=P.hs.length
 l0:S.ig.length=P.bs.length
 l1:S.ee.length=P.s1.length
 l2:S.cY.length=P.s2.length
 l3:S.jY.length=P.s3.length
 ct: ∀ c∈S.cA,0<=c/\c<=N
 bx: ∀ b∈S.ig,(0<=b.1/\b.1<=999)/\sI N b.2
 lk: ∀ l∈S.ee,(∀ i,l.1=some i->0<=i/\i < 4)/\sI N l.2
 ln: ∀ n∈S.cY,(0<=n.1/\n.1<=N)/\(0<=n.2.1/\n.2.1<=N)/\n.2.2.length<=N/\ ∀ v∈n.2.2,0<=v/\v<=999
 dr: ∀ d∈S.jY,0<=d/\d<=N
 se: ∀(j:Nat)(x:Str × List Rw)(s:aF),P.hs[j]?=some x->S.aW[j]?=some s->Px P N x s
noncomputable def kh(P:Pg)(S:Wd):Option Rw->PV
 | none=> .str "end"
 | some (.take l)=>match S.ee[(P.nm 1).idxOf l]? with
  | some (some i,_)=> .tup [.str "lock",.str l,.int i]
  | _=> .non
 | some (.fetch _ l)=>match S.cY[(P.nm 2).idxOf l]? with
  | some (_,_,[])=> .tup [.str "letter",.str l]
  | _=> .non
 | some _=> .non
noncomputable def rowAt(P:Pg)(S:Wd)(j:Nat):Option Rw:=match P.hs[j]?,S.aW[j]? with
 | some x,some s=>x.2[s.row]?
 | _,_=>none
noncomputable def cU(P:Pg)(S:Wd)(j:Nat):PV:=kh P S (rowAt P S j)
theorem eV{P:Pg}{S:Wd}{j:Nat}{x:Str × List Rw}{s:aF}(e1:P.hs[j]?=some x)(e2:S.aW[j]?=some s):rowAt P S j=x.2[s.row]?:=by unfold rowAt;rw[e1,e2]
theorem bK{P:Pg}(ok:P.Ok){j:Nat}{x:Str × List Rw}(e:P.hs[j]?=some x){r:Rw}(m:r∈x.2){k:Nat}{t:Str}(q:r.th=some (k,t)):t∈P.nm k:=by
 obtain⟨_,L,_,_,l3⟩:=ok.hd x (Uq e);exact(l3 r m).2 k t (QV q)
theorem OI{P:Pg}(ok:P.Ok){j:Nat}{x:Str × List Rw}(e:P.hs[j]?=some x){r:Rw}(m:r∈x.2){k:Nat}{t:Str}(q:r.nm=some (k,t)):t∈P.nm k:=by
 obtain⟨_,L,_,_,l3⟩:=ok.hd x (Uq e);exact(l3 r m).2 k t q
theorem bg{α :Type}{l:List α}{ns:List Str}{t:Str}(hl:l.length=ns.length)(m:t∈ns): ∃ z,l[ns.idxOf t]?=some z/\z∈l:=by
 have h:ns.idxOf t < l.length:=by rw[hl];exact Yz m
 exact⟨l[ns.idxOf t],Ur h,VC h⟩
theorem bE{α :Type}{f: α ->PV}{l:List α}{n:Nat}{z: α}(e:l[n]?=some z):dS (l.map f) (n:Int)=some (f z):=P3.cZ rfl (by rw[UA,e];rfl)
theorem l9{P:Pg}{S:Wd}{N:Nat}(W:gQ P N S){j:Nat}(h:j < P.hs.length): ∃ x s c,P.hs[j]?=some x/\S.aW[j]?=some s/\S.cA[j]?=some c/\Px P N x s:=by
 have h1:j < S.aW.length:=by rw[W.ls];exact h
 have h2:j < S.cA.length:=by rw[W.lc];exact h
 exact⟨P.hs[j],S.aW[j],S.cA[j],Ur h,Ur h1,Ur h2,W.se j _ _ (Ur h) (Ur h1)⟩
theorem iI{rs:List Rw}: ∀(n:Nat)(s:aF),bw rs (bh rs n s)=true
 | 0,s=>by
  unfold bh;split
  . assumption
  . unfold bw;rw[Wv (Uo _)]
 | n+1,s=>by
  unfold bh;split
  . assumption
  . split
    . rename_i e;unfold bw;rw[e]
    . exact iI n _
theorem Mo{α :Type}{l:List α}{g f: α ->PV}{st:PV->PH->RV (Option PV)}{H:PH}(hl:l.length<=1000)(he: ∀ x∈l,st (g x) H= .ok (some (f x)) H):fH ⟨none,l.map g⟩ st (l.map g) [] H= .ok (l.map f) H :=
 (fE rfl l [] (f:=λx=>some (f x)) (g:=g) he (by simp;omega)).trans (by rw[UR,XX])
noncomputable def gY:Nat->Str
 | 0=> "box" | 1=> "lock" | 2=> "lane" | _=> "door"
noncomputable def Bu(S:Wd):Nat->List PV
 | 0=>S.ig.map gO | 1=>S.ee.map fz | 2=>S.cY.map fu | _=>S.jY.map PV.int
section
variable{pg:Tb}(T:cb pg)
include T
theorem Ck (k:Nat) (h:PH) (P:Pg) (ok:P.Ok) (i:Nat):run pg (k+1) "names_of" [P.v,.str (gY i)] h= .ok (.ref h.length) (h++[.lst ((P.nm i).map PV.str)]):=by
 have b20:=ok.bx.1;rw [run_eq T.xi rfl];have ik: ∀ (a:Str) (n:Nat),a∈(["box", "lock", "lane", "door", "hand"]:List Str)->(["box", "lock", "lane", "door", "hand"]:List Str).idxOf a=n->qA (.ktup [(.str "box"),(.str "lock"),(.str "lane"),(.str "door"),(.str "hand")]) [.str a] h= .ok (.int (n:Nat)) h:=λa n m e=>by rw [<- e];exact NZ (ss:=["box", "lock", "lane", "door", "hand"]) m
 match i with
 | 0 =>
  have q:qA (.ktup [(.str "box"),(.str "lock"),(.str "lane"),(.str "door"),(.str "hand")]) [.str "box"] h= .ok (.int 0) h:=ik "box" 0 (by decide +kernel) (by decide +kernel)
  have lc: ∀ E:ao,E=[some P.v,some (.str "box"),some (.tup (P.bs.map cO))]->fH ⟨none,P.bs.map cO⟩ (aQ 1 (gN 3) aP (eX 3 0) (run pg k) E) (P.bs.map cO) [] h= .ok ((P.bs.map (·.1)).map PV.str) h:=by
   rintro _ rfl;rw[Ve];refine Mo (l:=P.bs) (f:=PV.str ∘ λz:Str × Int=>z.1) (by omega) λx _=>?_;simp? [cO];rfl
  have lc':=lc _ rfl
  unfold Pg.v at lc'
  simp? [dF,gv,Pg.v,gY,Pg.nm,LV,yW,q,lc']
  exact cg rfl
 | 1 =>
  have q:=ik "lock" 1 (by decide +kernel) (by decide +kernel)
  have q':qA (.ktup [(.str "box"),(.str "lock"),(.str "lane"),(.str "door"),(.str "hand")]) [.str "lock"] h= .ok (.int 1) h:=q
  simp? [dF,gv,Pg.v,gY,Pg.nm,LV,yW,q']
  exact cg rfl
 | 2 =>
  have q:=ik "lane" 2 (by decide +kernel) (by decide +kernel)
  have q':qA (.ktup [(.str "box"),(.str "lock"),(.str "lane"),(.str "door"),(.str "hand")]) [.str "lane"] h= .ok (.int 2) h:=q
  simp? [dF,gv,Pg.v,gY,Pg.nm,LV,yW,q']
  exact cg rfl
 | (n+3) =>
  have q:=ik "door" 3 (by decide +kernel) (by decide +kernel)
  have q':qA (.ktup [(.str "box"),(.str "lock"),(.str "lane"),(.str "door"),(.str "hand")]) [.str "door"] h= .ok (.int 3) h:=q
  simp? [dF,gv,Pg.v,gY,Pg.nm,LV,yW,q']
  exact cg rfl
theorem rK(k:Nat)(h:PH){P:Pg}(ok:P.Ok){i:Nat}{t:Str}(m:t∈P.nm i):run pg (k+2) "number_of" [P.v,.str (gY i),.str t] h= .ok (.int ((P.nm i).idxOf t:Nat)) h:=by
 have n1:=Ck T k h P ok i;have e:(h++[PO.lst ((P.nm i).map PV.str)])[h.length]?=some (.lst ((P.nm i).map PV.str)):=bM;have i1:=Qy e t;have i2:=tR e m;rw[run_eq T.vA rfl];simp? [gL,nA,n1,i1,m,i2];exact cj rfl
theorem oE(k:Nat)(h:PH){P:Pg}(ok:P.Ok)(S:Wd){i:Nat}(i4:i < 4){t:Str}(m:t∈P.nm i){z:PV}(e:(Bu S i)[(P.nm i).idxOf t]?=some z):run pg (k+3) "state_of" [P.v,aS S,.str (gY i),.str t] h= .ok z h:=by
 have n1:=rK T k h ok m;have a1:dS (Bu S i) (((P.nm i).idxOf t:Nat):Int)=some z:=P3.cZ rfl e;have ix: ∀ g,aw (.tup (Bu S i)) (.int (((P.nm i).idxOf t:Nat):Int)) g= .ok z g:=λg=>kC a1;have pl:bT dH (.inr (gY i))=some (.int ((2+i:Nat):Int)):=by
  match i,i4 with
  | 0,_=>simp only[gY];decide +kernel
  | 1,_=>simp only[gY];decide +kernel
  | 2,_=>simp only[gY];decide +kernel
  | 3,_=>simp only[gY];decide +kernel
 have st: ∀ g,aw (aS S) (.int ((2+i:Nat):Int)) g= .ok (.tup (Bu S i)) g:=λg=>by
  match i,i4 with
  | 0,_=>exact uR
  | 1,_=>exact Bm
  | 2,_=>exact uJ
  | 3,_=>exact Lp
 rw[run_eq T.xJ rfl];simp? [iK,o7,pl,st,n1,ix]
end
theorem lay_ints: ∀ ls:List Int,VW (ls.map YQ)=true
 | []=>rfl
 | i::r=>by rw[Ul,VW,lay_ints r];rfl
theorem kH{f:Nat->Option Ws}: ∀ ls:List Int,bU f (ls.map PV.int)=some (ls.map YQ)
 | []=>rfl
 | x::r=>by rw[Ul,bU,kH r];rfl
theorem oy{ls:List Int}{h:PH}:oz (.tup (ls.map PV.int)) (.tup []) h= .ok (.bl (decide (ls=[]))) h:=by
 have d1:dat 6 h (.tup (ls.map PV.int))=some (.tuple (ls.map YQ)):=by unfold dat;rw[jd,kH];rfl
 have d2:dat 6 h (.tup [])=some (.tuple []):=rfl;have sc:kf (.tup (ls.map PV.int)) (.tup [])=false:=rfl;have c1:(Yy (ls.map YQ)).canLay0=true:=by rw[YS,lay_ints]
 have c2:(Yy []).canLay0=true:=rfl;have c3:min (Yy (ls.map YQ)).depth (Yy []).depth<=64:=UO (X4 _ _) (by decide);have al:alike (.tup (ls.map PV.int)) (.tup []) h=some (decide (ls=[])):=by
  unfold alike;rw[sc,d1,d2];simp only[Wq,if_false,c1,c2,c3,and_self,if_true];cases ls<;>rfl
 unfold oz;rw[al]
theorem D5(s:aF)(r:Rw): ∃ t v,bR s r= .tup [.str r.w,t,v]:=by cases r<;>exact⟨_,_,rfl⟩
theorem u0(r:Rw):(∃ l,r= .take l)\/(∃ x l,r= .fetch x l)\/(¬ r.w= "take" /\ ¬ r.w= "fetch" /\ ∀ P S,kh P S (some r)= .non):=by
 cases r with
 | take l=>exact .inl ⟨l,rfl⟩
 | fetch x l=>exact .inr (.inl ⟨x,l,rfl⟩)
 | _=>exact .inr (.inr ⟨by simp only[Rw.w];decide +kernel,by simp only[Rw.w];decide +kernel,λ_ _=>rfl⟩)
section
variable{pg:Tb}(T:cb pg)
include T
theorem xS(k:Nat)(h:PH){P:Pg}(ok:P.Ok){N:Nat}{S:Wd}(W:gQ P N S){j:Nat}(hj:j < P.hs.length):run pg (k+11) "wait_of" [P.v,aS S,.int j] h= .ok (cU P S j) h:=by
 obtain⟨x,s,c,ex,es,ec,so⟩:=l9 W hj;obtain⟨l1,l2,l3⟩:=dR (ok.hd x (Uq ex));have to:=nM T k h (by omega) (P.hand ex) l3 so.so;have i1: ∀ g,aw (aS S) (.int 1) g= .ok (.tup (S.aW.map az)) g:=λg=>jX;have i2: ∀ g,aw (.tup (S.aW.map az)) (.int j) g= .ok (az s) g:=λg=>kC (bE es);rw[run_eq T.zP rfl];unfold cU;rw[eV ex es];unfold qh at to;cases e:x.2[s.row]? with
 | none =>
  rw[e] at to
  simp? [c9,eN,i1,i2,to,kh]
 | some r =>
  rw[e] at to
  have mr:=Uq e
  rcases u0 r with⟨l,rfl⟩ | ⟨y,l,rfl⟩ | ⟨n1,n2,n3⟩
  . have m:=bK ok ex mr (k:=1) (t:=l) rfl;obtain⟨z,ez,mz⟩:=bg (l:=S.ee) (ns:=P.nm 1) W.l1 m;have so:=oE T (k+7) h ok S (i:=1) (by decide) m (z:=fz z) (by show(S.ee.map fz)[_]?=_;rw[UA,ez];rfl);have so':run pg (k+10) "state_of" [P.v,aS S,.str "lock",.str l] h= .ok (fz z) h:=so;obtain⟨zh,zm⟩:=z;simp only[kh,ez];cases zh with
    | none=>simp? [c9,eN,i1,i2,to,bR,so',fz,NB]
    | some i=>simp? [c9,eN,i1,i2,to,bR,so',fz,NB]
  . have m:=bK ok ex mr (k:=2) (t:=l) rfl;obtain⟨z,ez,mz⟩:=bg (l:=S.cY) (ns:=P.nm 2) W.l2 m;have so:=oE T (k+7) h ok S (i:=2) (by decide) m (z:=fu z) (by show(S.cY.map fu)[_]?=_;rw[UA,ez];rfl);have so':run pg (k+10) "state_of" [P.v,aS S,.str "lane",.str l] h= .ok (fu z) h:=so;obtain⟨a,b,ls⟩:=z;simp only[kh,ez];cases ls with
    | nil =>
     have q:=oy (ls:=[]) (h:=h)
     rw[UU] at q
     simp? [c9,eN,i1,i2,to,bR,so',fu,q]
    | cons i r =>
     have q:=oy (ls:=i::r) (h:=h)
     have ne:decide (i::r=[])=false:=rfl
     rw[ne,Ul] at q
     simp? [c9,eN,i1,i2,to,bR,so',fu,q]
  . obtain⟨t,v,et⟩:=D5 s r;have to':run pg (k+10) "touch_of" [P.v,.int j,az s] h= .ok (bR s r) h:=to;rw[et] at to';rw[n3];simp? [c9,eN,i1,i2,to',n1,n2]
end
noncomputable def dG(P:Pg)(S:Wd):List Nat:=(Vn P.hs.length).filter λj=>decide (cU P S j= .non)
theorem nz{α β :Type}(p: α ->Bool)(f: α -> β): ∀ l:List α,(l.filterMap λj=>if p j=true then some (f j) else none)=(l.filter p).map f
 | []=>rfl
 | x::r=>by
  by_cases z:p x=true
  . rw[V5 (by rw[if_pos z]),U0 z,Ul,nz p f r]
  . rw[V4 (by rw[if_neg z]),Va z,nz p f r]
noncomputable def gE(j:Nat):PV:= .int (j:Int)
theorem Jl{x:PV}{h:PH}:hI false x h= .ok (.bl (decide (x= .non))) h:=rfl
theorem AN{h:PH}{n m:Nat}{xs:List PV}{ds:List Ws}(e1:h[n]?=some (.lst xs))(e2:h[m]?=some (.lst []))(d: ∀ sub,bU sub xs=some ds)(c:VW ds=true):alike (.ref n) (.ref m) h=some (decide (xs=[])):=by
 have d1:dat 6 h (.ref n)=some (.list ds):=by unfold dat;simp only[jd,e1,d,WB]
 have d2:dat 6 h (.ref m)=some (.list []):=by unfold dat;simp only[jd,e2,bU,WB]
 have c1:(Xe ds).canLay0=true/\(Xe []).canLay0=true/\min (Xe ds).depth (Xe []).depth<=64:=⟨by rw[YS];exact c,rfl,UO (X4 _ _) (by decide)⟩
 unfold alike;rw[show kf (.ref n) (.ref m)=false from rfl,d1,d2];simp only[Wq,if_false];rw[if_pos c1];cases xs with
 | nil =>
  have:=d λ_=>none
  cases this
  rfl
 | cons x r =>
  have q:=d λ_=>none
  cases ds with
  | nil =>
   rw[bU] at q
   split at q
   . cases q
   . exact nomatch q
  | cons a b=>rfl
theorem FA{h:PH}{n m:Nat}{xs:List PV}{ds:List Ws}(e1:h[n]?=some (.lst xs))(e2:h[m]?=some (.lst []))(d: ∀ sub,bU sub xs=some ds)(c:VW ds=true):iV (.ref n) (.ref m) h= .ok (.bl (!decide (xs=[]))) h:=by
 have nd:gF h (.ref n)=false:=by simp only[gF,e1]
 unfold iV;rw[AN e1 e2 d c,nd];rfl
theorem CY(l:List Nat):l.map gE=(l.map λj:Nat=>(j:Int)).map PV.int:=by rw[Ve];rfl
theorem Pb(l:List Nat): ∃ ds:List Ws,(∀ sub,bU sub (l.map gE)=some ds)/\VW ds=true:=by
 rw[CY];exact⟨_,λsub=>kH _,lay_ints _⟩
noncomputable def jD(j:Nat)(c:Int):PV:= .tup [.int (j:Int),.int c]
noncomputable def Rw.tg:Rw->Str
 | .hear _ d=>d
 | r=>match r.th with
  | some (_,t)=>t
  | none=> ""
noncomputable def met(P:Pg)(S:Wd)(j:Nat)(c:Int)(s:aF)(g:PV):Rw->Wd × PV × PV
 | .get _ b=>(S,.int ((S.ig[(P.nm 0).idxOf b]?).getD (0,.non)).1,((S.ig[(P.nm 0).idxOf b]?).getD (0,.non)).2)
 | .put b e=>({ S with ig:=S.ig.set ((P.nm 0).idxOf b) (e.val (fP s.ps),jD j c) },.int (e.val (fP s.ps)),((S.ig[(P.nm 0).idxOf b]?).getD (0,.non)).2)
 | .take l=>({ S with ee:=S.ee.set ((P.nm 1).idxOf l) (some (j:Int),((S.ee[(P.nm 1).idxOf l]?).getD (none,.non)).2) },.non,((S.ee[(P.nm 1).idxOf l]?).getD (none,.non)).2)
 | .free l=>({ S with ee:=S.ee.set ((P.nm 1).idxOf l) (none,jD j c) },.non,.non)
 | .send l e=>({ S with cY:=S.cY.set ((P.nm 2).idxOf l) (((S.cY[(P.nm 2).idxOf l]?).getD (0,0,[])).1+1,((S.cY[(P.nm 2).idxOf l]?).getD (0,0,[])).2.1,((S.cY[(P.nm 2).idxOf l]?).getD (0,0,[])).2.2++[e.val (fP s.ps)]) },.int (e.val (fP s.ps)),.int ((S.cY[(P.nm 2).idxOf l]?).getD (0,0,[])).1)
 | .fetch _ l=>({ S with cY:=S.cY.set ((P.nm 2).idxOf l) (((S.cY[(P.nm 2).idxOf l]?).getD (0,0,[])).1,((S.cY[(P.nm 2).idxOf l]?).getD (0,0,[])).2.1+1,((S.cY[(P.nm 2).idxOf l]?).getD (0,0,[])).2.2.tail) },.int (((S.cY[(P.nm 2).idxOf l]?).getD (0,0,[])).2.2.headD 0),.int ((S.cY[(P.nm 2).idxOf l]?).getD (0,0,[])).2.1)
 | .say d e=>({ S with jY:=S.jY.set ((P.nm 3).idxOf d) ((S.jY[(P.nm 3).idxOf d]?).getD 0+1) },.int (e.val (fP s.ps)),.int ((S.jY[(P.nm 3).idxOf d]?).getD 0))
 | _=>(S,g,.non)
noncomputable def j9(S:Wd)(j:Nat)(c:Int)(t:aF):Wd:={ S with cA:=S.cA.set j (c+1),aW:=S.aW.set j t }
noncomputable def dJ(r:Rw)(v m:PV):PV:= .tup [.str r.w,.str r.tg,v,m]
noncomputable def gc(P:Pg)(S:Wd)(j:Nat)(c:Int)(rs:List Rw)(s:aF)(g:PV)(r:Rw):Wd:=j9 (met P S j c s g r).1 j c (bh rs 200 (after s (met P S j c s g r).2.1 r))
noncomputable def dZ:Rw->Bool
 | .clock _=>true | .lot _ _=>true | .hear _ _=>true
 | _=>false
noncomputable def fq (r:Rw) (g:PV):Prop:=(dZ r=true-> ∃ i:Int,g= .int i∧0<=i∧i<=999∧ ∀ x n,r= .lot x n->i < n)∧(dZ r=false->g= .non)
theorem bL {α :Type} (f: α ->PV) (l:List α) (n:Nat) (z: α):(l.map f).set n (f z)=(l.set n z).map f:=List.map_set.symm
theorem pE {r:Rw} {i:Nat} {t:Str} (h:r.th=some (i,t)):bT fT (.inr r.w)=some (.str (gY i))∧ ¬ r.w∈(["clock", "lot", "hear"]:List Str)∧i < 4∧dZ r=false∧r.tg=t:=by
 cases r<;>cases h<;>exact ⟨by simp only [Rw.w,gY];decide +kernel,by simp only [Rw.w];decide +kernel,by decide,rfl,rfl⟩
theorem jN {r:Rw} (h:dZ r=true):r.w∈(["clock", "lot", "hear"]:List Str)∧r.th=none∧ ∀ P S j c s g,met P S j c s g r=(S,g,.non):=by
 cases r<;>first | exact ⟨by simp only [Rw.w];decide +kernel,rfl,λ_ _ _ _ _ _=>rfl⟩ | exact nomatch h
theorem oJ {r:Rw} (s:aF) (h:dZ r=true): ∃ tv,bR s r= .tup [.str r.w,.str r.tg,tv]∧((∃ x n,r= .lot x n∧tv= .int n)∨ ¬ r.w= "lot"):=by
 cases r<;>first | exact ⟨_,rfl,.inl ⟨_,_,rfl,rfl⟩⟩ | exact ⟨_,rfl,.inr (by simp only [Rw.w];decide +kernel)⟩ | exact nomatch h
theorem uZ{r:Rw}{i:Nat}{t:Str}(s:aF)(h:r.th=some (i,t)): ∃ tv,bR s r= .tup [.str r.w,.str t,tv]:=by
 cases r<;>cases h<;>exact⟨_,rfl⟩
theorem iZ{rs:List Rw}{s:aF}{r:Rw}(h:bw rs s=true)(e:rs[s.row]?=some r):own s.held r=false/\((∃ i t,r.th=some (i,t))\/dZ r=true):=by
 unfold bw at h;rw[e] at h;have ho:own s.held r=false:=by simpa using h
 refine⟨ho,?_⟩;cases r<;>first | exact .inr rfl | exact .inl ⟨_,_,rfl⟩ | exact nomatch ho
section
variable{pg:Tb}(T:cb pg)
include T
theorem dN(k:Nat)(h:PH)(xs:List PV)(n:Nat)(v:PV)(hn:n < xs.length)(hx:xs.length<=1000):run pg (k+1) "replaced" [.tup xs,.int (n:Int),v] h= .ok (.tup (xs.set n v)) h:=by
 have c1:gD xs none (some (n:Int))=xs.take n:=by rw[P3.sJ (by omega)];rfl
 have c2:gD xs (some ((n:Int)+1)) none=xs.drop (n+1):=by rw[P3.lG (by omega)];congr 1
 have a1: ∀ g,bf (.tup (xs.take n)) (.tup [v]) g= .ok (.tup (xs.take n++[v])) g:=λg=>jO (by simp only[Vo,Um,UL];omega);have a2: ∀ g,bf (.tup (xs.take n++[v])) (.tup (xs.drop (n+1))) g= .ok (.tup (xs.take n++[v]++xs.drop (n+1))) g:=λg=>jO (by simp only[Uu,Vo,V1,Um,UL];omega);have es:xs.set n v=xs.take n++[v]++xs.drop (n+1):=by rw[List.set_eq_take_append_cons_drop,if_pos hn];simp
 rw[es,run_eq T.xx rfl];simp? [iA,pv,c1,c2,a1,↓a2]
theorem qb(k:Nat)(h:PH){i a b:Int}(h0:a<=i)(h9:i<=b):run pg (k+2) "is_between" [.int i,.int a,.int b] h= .ok (.bl true) h:=by
 have w:run pg (k+1) "is_whole" [.int i] h= .ok (.bl true) h:=by
  rw[run_eq T.xt rfl];simp? [iN,pb,NR,Ku]
 rw [run_eq T.sM rfl];simp? [fD,lP,w,h0,h9]
theorem HF (k:Nat) (h:PH) {r:Rw} {g:PV} (s:aF) (hg:fq r g) (hc:(∃ i t,r.th=some (i,t))∨dZ r=true):run pg (k+5) "takes_gift" [bR s r,g] h= .ok (.bl true) h:=by
 have ink: ∀ a:Str,iW (.str a) (.ktup [(.str "clock"),(.str "lot"),(.str "hear")]) h= .ok (.bl (decide (a∈(["clock", "lot", "hear"]:List Str)))) h:=λa=>in_K (ss:=["clock", "lot", "hear"]);rw [run_eq T.ua rfl];rcases hc with ⟨i,t,ht⟩ | hq
 . obtain ⟨_,n2,_,n4,_⟩:=pE ht;obtain⟨tv,et⟩:=uZ s ht;have eg:=hg.2 n4;subst eg;rw[et];simp? [d8,iw,ink,n2]
 . obtain⟨m1,_⟩:=jN hq;obtain⟨i,rfl,i0,i9,il⟩:=hg.1 hq;obtain⟨tv,et,cl⟩:=oJ s hq;have iv:run pg (k+3) "is_value" [.int i] h= .ok (.bl true) h:=by
    have:=qb T k h i0 i9;rw[run_eq T.xG rfl];simp? [iQ,pB,this]
   have mc:run pg (k+4) "may_come" [bR s r,.int i] h= .ok (.bl true) h:=by
    rw[run_eq T.xM rfl];rcases cl with⟨x,n,rfl,rfl⟩ | cl
    . have lt:=il x n rfl;rw[et];simp? [fY,ku,iv,Rw.w,lt]
    . rw[et];simp? [fY,ku,iv,cl]
   rw[et] at mc ⊢;simp? [d8,iw,ink,m1,mc]
theorem Dt(k:Nat)(h:PH){P:Pg}(ok:P.Ok){N:Nat}{S:Wd}(W:gQ P N S){j:Nat}{x:Str × List Rw}{s:aF}{r:Rw}(ex:P.hs[j]?=some x)(es:S.aW[j]?=some s)(er:x.2[s.row]?=some r)(hw:cU P S j= .non){g:PV}(hg:fq r g):run pg (k+12) "due_touch" [P.v,aS S,.int j,g] h= .ok (bR s r) h:=by
 have hj:j < P.hs.length:=(Uh.mp ex).1;have so:=W.se j x s ex es;obtain⟨l1,l2,l3⟩:=dR (ok.hd x (Uq ex));have to:=nM T (k+1) h (by omega) (P.hand ex) l3 so.so;unfold qh at to;rw[er] at to;have to':run pg (k+11) "touch_of" [P.v,.int j,az s] h= .ok (bR s r) h:=to;have i1: ∀ g,aw (aS S) (.int 1) g= .ok (.tup (S.aW.map az)) g:=λg=>jX;have i2: ∀ g,aw (.tup (S.aW.map az)) (.int j) g= .ok (az s) g:=λg=>kC (bE es);have i4: ∀ g,aw P.v (.int 4) g= .ok (.tup (P.hs.map bG)) g:=λg=>uJ;have w:=xS T k h ok W hj;rw[hw] at w;have bt:=qb T (k+9) h (i:=(j:Int)) (a:=0) (b:=(P.hs.length:Int) - 1) (by omega) (by omega);have tg:=HF T (k+6) h s hg (iZ so.re er).2;have en:oz .non (.str "end") h= .ok (.bl false) h:=rfl;rw[run_eq T.uS rfl];simp? [gK,nR,i4,Ui,bt,w,en,i1,i2,to',tg]
theorem pO(k:Nat)(h:PH){P:Pg}(ok:P.Ok){N:Nat}{S:Wd}(W:gQ P N S)(N9:N<=60){j:Nat}{x:Str × List Rw}{s:aF}{c:Int}{r:Rw}(ex:P.hs[j]?=some x)(es:S.aW[j]?=some s)(ec:S.cA[j]?=some c)(er:x.2[s.row]?=some r){S1:Wd}(h1:S1.cA=S.cA)(h2:S1.aW=S.aW){v:PV}(hv: ∀ x,r.fU=some x-> ∃ i:Int,v= .int i/\0<=i/\i<=999):run pg (k+12) "with_hand_on" [P.v,aS S1,.int j,v] h= .ok (aS (j9 S1 j c (bh x.2 200 (after s v r)))) h:=by
 have so:=W.se j x s ex es;have hm:=ok.many;obtain⟨l1,l2,l3⟩:=dR (ok.hd x (Uq ex))
 let t:=bh x.2 200 (after s v r)
 have sb:run pg (k+11) "seat_behind" [P.v,.int j,az s,v] h= .ok (az t) h:=oQ T k h (by omega) (P.hand ex) l3 so.so (UO so.le N9) er hv;have lj:j < P.hs.length:=(Uh.mp ex).1;have i0: ∀ g,aw (aS S1) (.int 0) g= .ok (.tup (S.cA.map PV.int)) g:=λg=>by rw[<- h1];exact sZ
 have i1: ∀ g,aw (aS S1) (.int 1) g= .ok (.tup (S.aW.map az)) g:=λg=>by rw[<- h2];exact jX
 have i2: ∀ g,aw (.tup (S.aW.map az)) (.int j) g= .ok (az s) g:=λg=>kC (bE es);have i3: ∀ g,aw (.tup (S.cA.map PV.int)) (.int j) g= .ok (.int c) g:=λg=>kC (bE ec);have lc:S.cA.length=P.hs.length:=W.lc;have ls:S.aW.length=P.hs.length:=W.ls;have r1:=dN T (k+10) h (S.cA.map PV.int) j (.int (c+1)) (by rw[Ui];omega) (by rw[Ui];omega);rw[bL PV.int] at r1;have r2:=dN T (k+10) h (S.aW.map az) j (az t) (by rw[Ui];omega) (by rw[Ui];omega);rw[bL az] at r2
 let B:List PV:=[.tup (S1.ig.map gO),.tup (S1.ee.map fz),.tup (S1.cY.map fu),.tup (S1.jY.map PV.int)]
 have e1:aS S1= .tup (.tup (S.cA.map PV.int):: .tup (S.aW.map az)::B):=by rw[<- h1,<- h2];rfl
 have r3:=dN T (k+10) h (.tup (S.cA.map PV.int):: .tup (S.aW.map az)::B) 0 (.tup ((S.cA.set j (c+1)).map PV.int)) (by simp[B]) (by simp[B]);rw[<- e1] at r3;have r3':run pg (k+11) "replaced" [aS S1,.int 0,.tup ((S.cA.set j (c+1)).map PV.int)] h= .ok (.tup (.tup ((S.cA.set j (c+1)).map PV.int):: .tup (S.aW.map az)::B)) h:=r3;have r4:=dN T (k+10) h (.tup ((S.cA.set j (c+1)).map PV.int):: .tup (S.aW.map az)::B) 1 (.tup ((S.aW.set j t).map az)) (by simp[B]) (by simp[B]);have r4':run pg (k+11) "replaced" [.tup (.tup ((S.cA.set j (c+1)).map PV.int):: .tup (S.aW.map az)::B),.int 1,.tup ((S.aW.set j t).map az)] h= .ok (aS (j9 S1 j c t)) h:=by
  refine(show _=RV.ok (PV.tup (.tup ((S.cA.set j (c+1)).map PV.int):: .tup ((S.aW.set j t).map az)::B)) h from r4).trans ?_;unfold j9 aS;rw[h1,h2]
 show _=RV.ok (aS (j9 S1 j c t)) h;rw[run_eq T.pL rfl]
 clear_value B t
 simp? [dW,jE,i0,i1,i2,i3,sb,r1,r2,r3',r4']
end
noncomputable def JH(S:Wd)(i n:Nat)(z:PV):PV:= .tup ([.tup (S.cA.map PV.int),.tup (S.aW.map az),.tup (S.ig.map gO),.tup (S.ee.map fz),.tup (S.cY.map fu),.tup (S.jY.map PV.int)].set (2+i) (.tup ((Bu S i).set n z)))
theorem Nx{α :Type}{l:List α}{n:Nat}{z: α}(e:l[n]?=some z):l.set n z=l:=by
 obtain⟨h,rfl⟩:=Uh.mp e;exact Z8 h
theorem CQ{P:Pg}{N:Nat}{S:Wd}(W:gQ P N S){i:Nat}(i4:i < 4):(Bu S i).length=(P.nm i).length:=by
 match i,i4 with
 | 0,_=>show(S.ig.map gO).length=(P.bs.map (·.1)).length;rw[Ui,Ui];exact W.l0
 | 1,_=>show(S.ee.map fz).length=P.s1.length;rw[Ui];exact W.l1
 | 2,_=>show(S.cY.map fu).length=P.s2.length;rw[Ui];exact W.l2
 | 3,_=>show(S.jY.map PV.int).length=P.s3.length;rw[Ui];exact W.l3
theorem NH{P:Pg}(ok:P.Ok){i:Nat}(i4:i < 4):(P.nm i).length<=20:=by
 match i,i4 with
 | 0,_=>show(P.bs.map (·.1)).length<=20;rw[Ui];exact ok.bx.1
 | 1,_=>exact ok.nm.1.1
 | 2,_=>exact ok.nm.2.1.1
 | 3,_=>exact ok.nm.2.2.1
section
variable{pg:Tb}(T:cb pg)
include T
theorem qE(k:Nat)(h:PH){P:Pg}(ok:P.Ok){N:Nat}{S:Wd}(W:gQ P N S){i:Nat}(i4:i < 4){t:Str}(m:t∈P.nm i)(z:PV):run pg (k+3) "with_state" [P.v,aS S,.str (gY i),.str t,z] h= .ok (JH S i ((P.nm i).idxOf t) z) h:=by
 have n1:=rK T k h ok m;have hn:(P.nm i).idxOf t < (Bu S i).length:=by rw[CQ W i4];exact Yz m
 have hx:=NH ok i4;rw[<- CQ W i4] at hx;have pl:bT dH (.inr (gY i))=some (.int ((2+i:Nat):Int)):=by
  match i,i4 with
  | 0,_=>simp only[gY];decide +kernel
  | 1,_=>simp only[gY];decide +kernel
  | 2,_=>simp only[gY];decide +kernel
  | 3,_=>simp only[gY];decide +kernel
 have st: ∀ g,aw (aS S) (.int ((2+i:Nat):Int)) g= .ok (.tup (Bu S i)) g:=λg=>by
  match i,i4 with
  | 0,_=>exact uR
  | 1,_=>exact Bm
  | 2,_=>exact uJ
  | 3,_=>exact Lp
 have r1:=dN T (k+1) h (Bu S i) ((P.nm i).idxOf t) z hn (by omega);have r2:=dN T (k+1) h [.tup (S.cA.map PV.int),.tup (S.aW.map az),.tup (S.ig.map gO),.tup (S.ee.map fz),.tup (S.cY.map fu),.tup (S.jY.map PV.int)] (2+i) (.tup ((Bu S i).set ((P.nm i).idxOf t) z)) (by simp only[Um,UL];omega) (by simp only[Um,UL];omega);have r2':run pg (k+2) "replaced" [aS S,.int ((2+i:Nat):Int),.tup ((Bu S i).set ((P.nm i).idxOf t) z)] h= .ok (JH S i ((P.nm i).idxOf t) z) h:=r2;rw[run_eq T.sC rfl];simp? [fI,lD,pl,st,n1,r1,r2']
theorem gA(k:Nat)(h:PH){P:Pg}(ok:P.Ok){N:Nat}{S:Wd}(W:gQ P N S)(N9:N<=60){j:Nat}{x:Str × List Rw}{s:aF}{c:Int}{r:Rw}(ex:P.hs[j]?=some x)(es:S.aW[j]?=some s)(ec:S.cA[j]?=some c)(er:x.2[s.row]?=some r)(hw:cU P S j= .non)
  {i:Nat} {t:Str} (ht:r.th=some (i,t)) {z v m z':PV} (ez:(Bu S i)[(P.nm i).idxOf t]?=some z) (me:run pg (k+12) "meeting" [bR s r,jD j c,z] h= .ok (.tup [v,m,z']) h) {S1:Wd} (h0:JH S i ((P.nm i).idxOf t) z'=aS S1) (h1:S1.cA=S.cA) (h2:S1.aW=S.aW) (hv: ∀ x,r.fU=some x-> ∃ i:Int,v= .int i/\0<=i/\i<=999) :
  run pg (k+13) "gone" [P.v,aS S,.int j,.non] h= .ok (.tup [aS (j9 S1 j c (bh x.2 200 (after s v r))),dJ r v m]) h:=by
 obtain⟨q1,q2,q3,q4,q5⟩:=pE ht;have tm:=bK ok ex (Uq er) ht;obtain⟨tv,et⟩:=uZ s ht;have du:=Dt T k h ok W ex es er hw (g:= .non) ⟨λe=>(nomatch (q4.symm.trans e)),λ_=>rfl⟩;have so:=oE T (k+9) h ok S q3 tm ez;have ws:=qE T (k+9) h ok W q3 tm z';rw[h0] at ws;have ho:=pO T k h ok W N9 ex es ec er h1 h2 hv;have i0: ∀ g,aw (aS S) (.int 0) g= .ok (.tup (S.cA.map PV.int)) g:=λg=>sZ;have i3: ∀ g,aw (.tup (S.cA.map PV.int)) (.int j) g= .ok (.int c) g:=λg=>kC (bE ec);have ink: ∀ a:Str,iW (.str a) (.ktup [(.str "clock"),(.str "lot"),(.str "hear")]) h= .ok (.bl (decide (a∈(["clock", "lot", "hear"]:List Str)))) h:=λa=>in_K (ss:=["clock", "lot", "hear"]);unfold jD at me;unfold dJ;rw [et] at du me;rw[q5,run_eq T.EA rfl];simp? [qf,wJ,du,ink,q2,q1,i0,i3,so,me,ws,ho]
theorem As(k:Nat)(h:PH){P:Pg}(ok:P.Ok){N:Nat}{S:Wd}(W:gQ P N S)(N9:N<=60){j:Nat}{x:Str × List Rw}{s:aF}{c:Int}{r:Rw}(ex:P.hs[j]?=some x)(es:S.aW[j]?=some s)(ec:S.cA[j]?=some c)(er:x.2[s.row]?=some r)(hw:cU P S j= .non)(hq:dZ r=true){g:PV}(hg:fq r g) :
  run pg (k+13) "gone" [P.v,aS S,.int j,g] h= .ok (.tup [aS (j9 S j c (bh x.2 200 (after s g r))),dJ r g .non]) h:=by
 obtain⟨q1,q2,q3⟩:=jN hq;obtain⟨tv,et,_⟩:=oJ s hq;have du:=Dt T k h ok W ex es er hw hg;obtain ⟨i,rfl,i0,i9,_⟩:=hg.1 hq;have ho:=pO T k h ok W N9 ex es ec er (S1:=S) rfl rfl (v:= .int i) (λ_ _=>⟨i,rfl,i0,i9⟩);have ink: ∀ a:Str,iW (.str a) (.ktup [(.str "clock"),(.str "lot"),(.str "hear")]) h= .ok (.bl (decide (a∈(["clock", "lot", "hear"]:List Str)))) h:=λa=>in_K (ss:=["clock", "lot", "hear"]);unfold dJ;rw [et] at du;rw [run_eq T.EA rfl];simp? [qf,wJ,du,ink,q1,ho]
theorem yX(k:Nat)(h:PH){P:Pg}(ok:P.Ok){N:Nat}{S:Wd}(W:gQ P N S)(N9:N<=60){j:Nat}{x:Str × List Rw}{s:aF}{c:Int}{r:Rw}(ex:P.hs[j]?=some x)(es:S.aW[j]?=some s)(ec:S.cA[j]?=some c)(er:x.2[s.row]?=some r)(hw:cU P S j= .non){g:PV}(hg:fq r g) :
  run pg (k+13) "gone" [P.v,aS S,.int j,g] h= .ok (.tup [aS (gc P S j c x.2 s g r),dJ r (met P S j c s g r).2.1 (met P S j c s g r).2.2]) h:=by
 have so:=W.se j x s ex es;have mr:=Uq er;rcases(iZ so.re er).2 with⟨i,t,ht⟩ | hq
 . obtain⟨q1,q2,q3,q4,q5⟩:=pE ht;have eg:=hg.2 q4;subst eg;have tm:=bK ok ex mr ht;cases r with
   | get y b =>
    obtain⟨z,ez,mz⟩:=bg (l:=S.ig) (ns:=P.nm 0) (by rw[W.l0];exact(Ui ..).symm) (bK ok ex mr (k:=0) (t:=b) rfl)
    have hz:=W.bx z mz
    have:=gA T k h ok W N9 ex es ec er hw (r:= .get y b) (i:=0) (t:=b) rfl (z:=gO z) (v:= .int z.1) (m:=z.2) (z':=gO z) (S1:=S) (by show(S.ig.map gO)[_]?=_;rw[UA,ez];rfl) (by
     rw[run_eq T.eL rfl];simp? [cG,dM,bR,gO,jD]) (by
     show PV.tup [_,_,.tup ((S.ig.map gO).set _ (gO z)),_,_,_]=_;rw[bL gO,Nx ez];rfl) rfl rfl (λ_ _=>⟨z.1,rfl,hz.1.1,hz.1.2⟩)
    simp only[gc,met,ez,UH]
    exact this
   | put b e =>
    obtain⟨z,ez,mz⟩:=bg (l:=S.ig) (ns:=P.nm 0) (by rw[W.l0];exact(Ui ..).symm) (bK ok ex mr (k:=0) (t:=b) rfl)
    have:=gA T k h ok W N9 ex es ec er hw (r:= .put b e) (i:=0) (t:=b) rfl (z:=gO z) (v:= .int (e.val (fP s.ps))) (m:=z.2) (z':=gO (e.val (fP s.ps),jD j c)) (S1:={ S with ig:=S.ig.set ((P.nm 0).idxOf b) (e.val (fP s.ps),jD j c) }) (by show(S.ig.map gO)[_]?=_;rw[UA,ez];rfl) (by
     rw[run_eq T.eL rfl];simp? [cG,dM,bR,gO,jD]) (by
     show PV.tup [_,_,.tup ((S.ig.map gO).set _ (gO _)),_,_,_]=_;rw[bL gO];rfl) rfl rfl (λ_ q=>nomatch q)
    simp only[gc,met,ez,UH]
    exact this
   | take l =>
    obtain⟨z,ez,mz⟩:=bg (l:=S.ee) (ns:=P.nm 1) W.l1 (bK ok ex mr (k:=1) (t:=l) rfl)
    have:=gA T k h ok W N9 ex es ec er hw (r:= .take l) (i:=1) (t:=l) rfl (z:=fz z) (v:= .non) (m:=z.2) (z':=fz (some (j:Int),z.2)) (S1:={ S with ee:=S.ee.set ((P.nm 1).idxOf l) (some (j:Int),z.2) }) (by show(S.ee.map fz)[_]?=_;rw[UA,ez];rfl) (by
     rw[run_eq T.eL rfl];simp? [cG,dM,bR,fz,NB,jD]) (by
     show PV.tup [_,_,_,.tup ((S.ee.map fz).set _ (fz _)),_,_]=_;rw[bL fz];rfl) rfl rfl (λ_ q=>nomatch q)
    simp only[gc,met,ez,UH]
    exact this
   | free l =>
    obtain⟨z,ez,mz⟩:=bg (l:=S.ee) (ns:=P.nm 1) W.l1 (bK ok ex mr (k:=1) (t:=l) rfl)
    have:=gA T k h ok W N9 ex es ec er hw (r:= .free l) (i:=1) (t:=l) rfl (z:=fz z) (v:= .non) (m:= .non) (z':=fz (none,jD j c)) (S1:={ S with ee:=S.ee.set ((P.nm 1).idxOf l) (none,jD j c) }) (by show(S.ee.map fz)[_]?=_;rw[UA,ez];rfl) (by
     rw[run_eq T.eL rfl];simp? [cG,dM,bR,fz,NB,jD]) (by
     show PV.tup [_,_,_,.tup ((S.ee.map fz).set _ (fz _)),_,_]=_;rw[bL fz];rfl) rfl rfl (λ_ q=>nomatch q)
    simp only[gc,met]
    exact this
   | send l e =>
    obtain⟨z,ez,mz⟩:=bg (l:=S.cY) (ns:=P.nm 2) W.l2 (bK ok ex mr (k:=2) (t:=l) rfl)
    have hz:=(W.ln z mz).2.2.1
    have ad: ∀ g,bf (.tup (z.2.2.map PV.int)) (.tup [.int (e.val (fP s.ps))]) g= .ok (.tup ((z.2.2++[e.val (fP s.ps)]).map PV.int)) g:=λg=>by
     rw[jO (by simp only[Ui,Um,UL];omega),Vh];rfl
    have:=gA T k h ok W N9 ex es ec er hw (r:= .send l e) (i:=2) (t:=l) rfl (z:=fu z) (v:= .int (e.val (fP s.ps))) (m:= .int z.1) (z':=fu (z.1+1,z.2.1,z.2.2++[e.val (fP s.ps)])) (S1:={ S with cY:=S.cY.set ((P.nm 2).idxOf l) (z.1+1,z.2.1,z.2.2++[e.val (fP s.ps)]) }) (by show(S.cY.map fu)[_]?=_;rw[UA,ez];rfl) (by
     rw[run_eq T.eL rfl];simp? [cG,dM,bR,fu,jD,↓ad]) (by
     show PV.tup [_,_,_,_,.tup ((S.cY.map fu).set _ (fu _)),_]=_;rw[bL fu];rfl) rfl rfl (λ_ q=>nomatch q)
    simp only[gc,met,ez,UH]
    exact this
   | fetch y l =>
    obtain⟨z,ez,mz⟩:=bg (l:=S.cY) (ns:=P.nm 2) W.l2 (bK ok ex mr (k:=2) (t:=l) rfl)
    have hz:=(W.ln z mz).2.2.2
    obtain⟨za,zb,zl⟩:=z
    obtain⟨i,ls,rfl⟩: ∃ i ls,zl=i::ls:=by
     cases zl with
     | cons i ls=>exact⟨i,ls,rfl⟩
     | nil =>
      unfold cU at hw
      rw[eV ex es,er] at hw
      simp only[kh,ez] at hw
      exact nomatch hw
    have hi:=hz i Uv
    have:=gA T k h ok W N9 ex es ec er hw (r:= .fetch y l) (i:=2) (t:=l) rfl (z:=fu (za,zb,i::ls)) (v:= .int i) (m:= .int zb) (z':=fu (za,zb+1,ls)) (S1:={ S with cY:=S.cY.set ((P.nm 2).idxOf l) (za,zb+1,ls) }) (by show(S.cY.map fu)[_]?=_;rw[UA,ez];rfl) (by
     rw[run_eq T.eL rfl];simp? [cG,dM,bR,fu,jD,qu]) (by
     show PV.tup [_,_,_,_,.tup ((S.cY.map fu).set _ (fu _)),_]=_;rw[bL fu];rfl) rfl rfl (λ_ _=>⟨i,rfl,hi.1,hi.2⟩)
    simp only[gc,met,ez,UH,abM,Yo]
    exact this
   | say d e =>
    obtain⟨z,ez,mz⟩:=bg (l:=S.jY) (ns:=P.nm 3) W.l3 (bK ok ex mr (k:=3) (t:=d) rfl)
    have:=gA T k h ok W N9 ex es ec er hw (r:= .say d e) (i:=3) (t:=d) rfl (z:= .int z) (v:= .int (e.val (fP s.ps))) (m:= .int z) (z':= .int (z+1)) (S1:={ S with jY:=S.jY.set ((P.nm 3).idxOf d) (z+1) }) (by show(S.jY.map PV.int)[_]?=_;rw[UA,ez];rfl) (by
     rw[run_eq T.eL rfl];simp? [cG,dM,bR,jD]) (by
     show PV.tup [_,_,_,_,_,.tup ((S.jY.map PV.int).set _ (.int _))]=_;rw[bL PV.int];rfl) rfl rfl (λ_ q=>nomatch q)
    simp only[gc,met,ez,UH]
    exact this
   | _=>exact nomatch ht
 . obtain⟨_,_,q3⟩:=jN hq;rw[gc,q3];exact As T k h ok W N9 ex es ec er hw hq hg
end
structure Lo where
 c:Nat->Nat
 p:Nat->Nat
 q:Nat->Nat
structure Lo.Ap(n:Lo)(m:Nat):Prop where
 cc: ∀ i k,i < 7->k < 7->i≠k->n.c i≠n.c k
 cp: ∀ i j,i < 7->j < m->n.c i≠n.p j
 cq: ∀ i j,i < 7->j < m->n.c i≠n.q j
 pp: ∀ i j,i < m->j < m->i≠j->n.p i≠n.p j
 qq: ∀ i j,i < m->j < m->i≠j->n.q i≠n.q j
 pq: ∀ i j,i < m->j < m->n.p i≠n.q j
noncomputable def Lo.Out(n:Lo)(m i:Nat):Prop:=(∀ k,k < 7->n.c k≠i)/\ ∀ j,j < m->n.p j≠i/\n.q j≠i
noncomputable def lo(n:Nat):Lo:=⟨λi=>n+i,λj=>n+7+3*j,λj=>n+9+3*j⟩
theorem QH(n m:Nat):(lo n).Ap m:=⟨λi k _ _ _=>by show n+i≠n+k;omega,λi j _ _=>by show n+i≠n+7+3*j;omega,λi j _ _=>by show n+i≠n+9+3*j;omega,λi j _ _ _=>by show n+7+3*i≠n+7+3*j;omega,λi j _ _ _=>by show n+9+3*i≠n+9+3*j;omega,λi j _ _=>by show n+7+3*i≠n+9+3*j;omega⟩
theorem pH{n m i:Nat}(h:i < n\/n+7+3*m<=i):(lo n).Out m i:=⟨λk _=>by show n+k≠i;omega,λj _=>⟨by show n+7+3*j≠i;omega,by show n+9+3*j≠i;omega⟩⟩
noncomputable def eO(n:Lo):List (Key × PV):=[(.inr "counts",.ref (n.c 1)),(.inr "seats",.ref (n.c 2)),(.inr "doors",.ref (n.c 3)),(.inr "boxes",.ref (n.c 4)),(.inr "locks",.ref (n.c 5)),(.inr "lanes",.ref (n.c 6))]
theorem cK(n:Lo):bT (eO n) (.inr "counts")=some (.ref (n.c 1))/\bT (eO n) (.inr "seats")=some (.ref (n.c 2))/\bT (eO n) (.inr "doors")=some (.ref (n.c 3))/\bT (eO n) (.inr "boxes")=some (.ref (n.c 4))/\bT (eO n) (.inr "locks")=some (.ref (n.c 5))/\bT (eO n) (.inr "lanes")=some (.ref (n.c 6)):=by
 refine⟨?_,?_,?_,?_,?_,?_⟩<;>simp[eO,bT,aO]
noncomputable def jZ(n:Lo)(j:Nat)(s:aF):PV:= .tup [.int s.row,.ref (n.p j),.ref (n.q j)]
noncomputable def sL(n:Lo)(ss:List aF):List PV:=ss.mapIdx (jZ n)
theorem ID{n:Lo}{j:Nat}{ss:List aF}{s:aF}(e:ss[j]?=some s):(sL n ss)[j]?=some (jZ n j s):=by unfold sL;rw[Yh,e];rfl
theorem CT(n:Lo)(ss:List aF):(sL n ss).length=ss.length:=by unfold sL;simp
theorem Mp(n:Lo)(j:Nat)(ss:List aF)(t:aF):(sL n ss).set j (jZ n j t)=sL n (ss.set j t):=by
 refine Y6 λi=>?_;unfold sL;rw[abd,Yh,Yh,abd,List.length_mapIdx];by_cases e:j=i
 . subst e;by_cases l:j < ss.length<;>simp[l]
 . simp[e]
noncomputable def cell(n:Lo)(S:Wd):Nat->PO
 | 0=> .dct (eO n) | 1=> .lst (S.cA.map PV.int) | 2=> .lst (sL n S.aW) | 3=> .lst (S.jY.map PV.int)
 | 4=> .lst (S.ig.map gO) | 5=> .lst (S.ee.map fz) | _=> .lst (S.cY.map fu)
noncomputable def TV(H:PH)(d l:Nat)(L:List Str)(s:aF):Prop:= ∃(D:Pk)(hl:List Str),H[d]?=some (.dct (cQ D))/\H[l]?=some (.lst (hl.map PV.str))/\oI L D/\(∀ x,fP D x=fP s.ps x)/\hl.Nodup/\ ∀ y,y∈hl↔y∈s.held
structure Rep(H:PH)(n:Lo)(P:Pg)(S:Wd)(ss:List aF):Prop where
 ap:n.Ap P.hs.length
 c: ∀ i,i < 7->H[n.c i]?=some (cell n S i)
 p: ∀(j:Nat)(x:Str × List Rw)(s:aF),P.hs[j]?=some x->ss[j]?=some s->TV H (n.p j) (n.q j) (F0 x) s
structure Fr(n:Lo)(m:Nat)(H H':PH):Prop where
 len:H'.length=H.length
 off: ∀ i,n.Out m i->H'[i]?=H[i]?
theorem Fr.refl{n:Lo}{m:Nat}{H:PH}:Fr n m H H:=⟨rfl,λ_ _=>rfl⟩
theorem Fr.set{n:Lo}{m i:Nat}{H H':PH}{o:PO}(f:Fr n m H H')(h: ∀ k,n.Out m k->i≠k):Fr n m H (H'.set i o) :=
 ⟨by rw[UW];exact f.len,λk hk=>by rw[bp (h k hk)];exact f.off k hk⟩
theorem nB{n:Lo}{m i:Nat}(hi:i < 7): ∀ k,n.Out m k->n.c i≠k:=λ_ h=>h.1 i hi
theorem y7{n:Lo}{m j:Nat}(hj:j < m): ∀ k,n.Out m k->n.p j≠k:=λ_ h=>(h.2 j hj).1
theorem IU{n:Lo}{m j:Nat}(hj:j < m): ∀ k,n.Out m k->n.q j≠k:=λ_ h=>(h.2 j hj).2
theorem Rep.same{H H':PH}{n:Lo}{P:Pg}{S:Wd}{ss:List aF}(R:Rep H n P S ss)(e: ∀ i,¬ n.Out P.hs.length i->H'[i]?=H[i]?):Rep H' n P S ss:=by
 refine⟨R.ap,λi hi=>by rw[e _ (λz=>z.1 i hi rfl)];exact R.c i hi,λj x s ex es=>?_⟩;obtain⟨D,hl,h1,h2,h3⟩:=R.p j x s ex es;have lj:=(Uh.mp ex).1;exact⟨D,hl,by rw[e _ (λz=>(z.2 j lj).1 rfl)];exact h1,by rw[e _ (λz=>(z.2 j lj).2 rfl)];exact h2,h3⟩
theorem Rep.app{H:PH}{n:Lo}{P:Pg}{S:Wd}{ss:List aF}(R:Rep H n P S ss)(G:PH):Rep (H++G) n P S ss:=by
 refine⟨R.ap,λi hi=>(aq (aA (R.c i hi))).trans (R.c i hi),λj x s ex es=>?_⟩;obtain⟨D,hl,h1,h2,h3⟩:=R.p j x s ex es;exact⟨D,hl,(aq (aA h1)).trans h1,(aq (aA h2)).trans h2,h3⟩
theorem Rep.set{H:PH}{n:Lo}{P:Pg}{S S':Wd}{ss:List aF}(R:Rep H n P S ss){i:Nat}(hi:i < 7)(e: ∀ k,k < 7->k≠i->cell n S' k=cell n S k):Rep (H.set (n.c i) (cell n S' i)) n P S' ss:=by
 refine⟨R.ap,λk hk=>?_,λj x s ex es=>?_⟩
 . by_cases z:k=i
   . subst z;exact nc (aA (R.c k hk))
   . rw[bp (R.ap.cc i k hi hk (V3 z)),e k hk z];exact R.c k hk
 . obtain⟨D,hl,h1,h2,h3⟩:=R.p j x s ex es;have lj:=(Uh.mp ex).1;exact⟨D,hl,by rw[bp (R.ap.cp i j hi lj)];exact h1,by rw[bp (R.ap.cq i j hi lj)];exact h2,h3⟩
theorem Rep.put{H:PH}{n:Lo}{P:Pg}{S:Wd}{ss:List aF}(R:Rep H n P S ss){j:Nat}{x:Str × List Rw}{s s':aF}(ex:P.hs[j]?=some x)(es:ss[j]?=some s){D:Pk}(hD:oI (F0 x) D)(hf: ∀ y,fP D y=fP s'.ps y)(hh:s'.held=s.held):Rep (H.set (n.p j) (.dct (cQ D))) n P S (ss.set j s'):=by
 have jl:=(Uh.mp ex).1;refine⟨R.ap,λk hk=>by rw[bp (V3 (R.ap.cp k j hk jl))];exact R.c k hk,λi y t ey et=>?_⟩;have lj:=(Uh.mp es).1;by_cases z:j=i
 . subst z;rw[U1 lj] at et;rw[ex] at ey;cases et;cases ey;obtain⟨D0,hl,h1,h2,h3,h4,h5,h6⟩:=R.p j x s ex es;exact⟨D,hl,nc (aA h1),by rw[bp (R.ap.pq j j jl jl)];exact h2,hD,hf,h5,by rw[hh];exact h6⟩
 . rw[Vm z] at et;obtain⟨D0,hl,h1,h2,h3⟩:=R.p i y t ey et;have li:=(Uh.mp ey).1;exact⟨D0,hl,by rw[bp (R.ap.pp j i jl li z)];exact h1,by rw[bp (R.ap.pq j i jl li)];exact h2,h3⟩
theorem Rep.hold{H:PH}{n:Lo}{P:Pg}{S:Wd}{ss:List aF}(R:Rep H n P S ss){j:Nat}{x:Str × List Rw}{s s':aF}(ex:P.hs[j]?=some x)(es:ss[j]?=some s){hl:List Str}(nd:hl.Nodup)(hm: ∀ y,y∈hl↔y∈s'.held)(hp:s'.ps=s.ps):Rep (H.set (n.q j) (.lst (hl.map PV.str))) n P S (ss.set j s'):=by
 have jl:=(Uh.mp ex).1;refine⟨R.ap,λk hk=>by rw[bp (V3 (R.ap.cq k j hk jl))];exact R.c k hk,λi y t ey et=>?_⟩;have lj:=(Uh.mp es).1;by_cases z:j=i
 . subst z;rw[U1 lj] at et;rw[ex] at ey;cases et;cases ey;obtain⟨D0,hl0,h1,h2,h3,h4,h5,h6⟩:=R.p j x s ex es;exact⟨D0,hl,by rw[bp (V3 (R.ap.pq j j jl jl))];exact h1,nc (aA h2),h3,by rw[hp];exact h4,nd,hm⟩
 . rw[Vm z] at et;obtain⟨D0,hl0,h1,h2,h3⟩:=R.p i y t ey et;have li:=(Uh.mp ey).1;exact⟨D0,hl0,by rw[bp (V3 (R.ap.pq i j li jl))];exact h1,by rw[bp (R.ap.qq j i jl li z)];exact h2,h3⟩
noncomputable def Fy:Option Rw->PV
 | none=> .non
 | some r=>br r
structure Cells(H:PH)(n:Lo)(S:Wd):Prop where
 e0:H[n.c 0]?=some (.dct (eO n))
 e1:H[n.c 1]?=some (.lst (S.cA.map PV.int))
 e2:H[n.c 2]?=some (.lst (sL n S.aW))
 e3:H[n.c 3]?=some (.lst (S.jY.map PV.int))
 e4:H[n.c 4]?=some (.lst (S.ig.map gO))
 e5:H[n.c 5]?=some (.lst (S.ee.map fz))
 e6:H[n.c 6]?=some (.lst (S.cY.map fu))
theorem Rep.cells{H:PH}{n:Lo}{P:Pg}{S:Wd}{ss:List aF}(R:Rep H n P S ss):Cells H n S :=
 ⟨R.c 0 (by decide),R.c 1 (by decide),R.c 2 (by decide),R.c 3 (by decide),R.c 4 (by decide),R.c 5 (by decide),R.c 6 (by decide)⟩
section
variable{pg:Tb}(T:cb pg)
include T
theorem kj(k:Nat){H:PH}{n:Lo}{P:Pg}{S:Wd}{N:Nat}(W:gQ P N S)(C:Cells H n S){j:Nat}(hj:j < P.hs.length):run pg (k+1) "_law_row" [P.v,.ref (n.c 0),.int j] H= .ok (Fy (rowAt P S j)) H:=by
 obtain⟨x,s,c,ex,es,ec,so⟩:=l9 W hj;obtain⟨v1,v2,v3,v4,v5,v6⟩:=cK n;have i4: ∀ g,aw P.v (.int 4) g= .ok (.tup (P.hs.map bG)) g:=λg=>uJ;have ih: ∀ g,aw (.tup (P.hs.map bG)) (.int j) g= .ok (bG x) g:=λg=>kC (bE ex);have i1: ∀ g,aw (bG x) (.int 1) g= .ok (bH x.2) g:=λg=>jX;have se:dS (sL n S.aW) (j:Int)=some (jZ n j s):=P3.cZ rfl (ID es);have s0: ∀ g,aw (jZ n j s) (.int 0) g= .ok (.int s.row) g:=λg=>sZ;have ln: ∀ h,cD [bH x.2] h= .ok (.int x.2.length) h:=λh=>by unfold bH;rw[len_T,Ui]
 rw[run_eq T.xu rfl,eV ex es];cases e:x.2[s.row]? with
 | none =>
  have z: ¬ (s.row:Int) < (x.2.length:Int):=by have:=VE.mp e;omega
  simp? [fV,kJ,i4,ih,i1,C.e0,v2,C.e2,se,s0,ln,z,Fy]
 | some r =>
  have z:(s.row:Int) < (x.2.length:Int):=by have:=(Uh.mp e).1;omega
  have ix: ∀ h,aw (bH x.2) (.int s.row) h= .ok (br r) h:=λh=>kC (hV e)
  simp? [fV,kJ,i4,ih,i1,C.e0,v2,C.e2,se,s0,ln,z,ix,Fy]
theorem vR(k:Nat){H:PH}{n:Lo}{P:Pg}(ok:P.Ok){S:Wd}{N:Nat}(W:gQ P N S)(C:Cells H n S){j:Nat}(hj:j < P.hs.length):run pg (k+2) "_law_wait" [P.v,.ref (n.c 0),.int j] H= .ok (cU P S j) H:=by
 have ro:=kj T k W C hj;obtain⟨x,s,c,ex,es,ec,so⟩:=l9 W hj;obtain⟨v1,v2,v3,v4,v5,v6⟩:=cK n;have j1: ∀ g,aw P.v (.int 1) g= .ok (.tup (P.s1.map PV.str)) g:=λg=>jX;have j2: ∀ g,aw P.v (.int 2) g= .ok (.tup (P.s2.map PV.str)) g:=λg=>uR;unfold cU;rw[eV ex es] at ro ⊢;rw[run_eq T.vI rfl];cases e:x.2[s.row]? with
 | none =>
  rw[e] at ro
  simp? [bZ,cR,ro,Fy,kh]
 | some r =>
  rw[e] at ro
  have mr:=Uq e
  rcases u0 r with⟨l,rfl⟩ | ⟨y,l,rfl⟩ | ⟨n1,n2,n3⟩
  . have m:l∈P.s1:=bK ok ex mr (k:=1) (t:=l) rfl;obtain⟨z,ez,mz⟩:=bg (l:=S.ee) (ns:=P.s1) W.l1 m;have ez':S.ee[(P.nm 1).idxOf l]?=some z:=ez;have at_:=bE (f:=fz) ez;obtain⟨zh,zm⟩:=z;simp only[kh,ez'];cases zh with
    | none=>simp? [bZ,cR,ro,Fy,br,Rw.w,Rw.ps,C.e0,v5,C.e5,j1,lT,iP,iu m,at_,fz,NB]
    | some i=>simp? [bZ,cR,ro,Fy,br,Rw.w,Rw.ps,C.e0,v5,C.e5,j1,lT,iP,iu m,at_,fz,NB]
  . have m:l∈P.s2:=bK ok ex mr (k:=2) (t:=l) rfl;obtain⟨z,ez,mz⟩:=bg (l:=S.cY) (ns:=P.s2) W.l2 m;have ez':S.cY[(P.nm 2).idxOf l]?=some z:=ez;have at_:=bE (f:=fu) ez;obtain⟨a,b,ls⟩:=z;simp only[kh,ez'];cases ls with
    | nil =>
     have q:=oy (ls:=[]) (h:=H)
     rw[UU] at q
     simp? [bZ,cR,ro,Fy,br,Rw.w,Rw.ps,C.e0,v6,C.e6,j2,lT,iP,iu m,at_,fu,q]
    | cons i r =>
     have q:=oy (ls:=i::r) (h:=H)
     have ne:decide (i::r=[])=false:=rfl
     rw[ne,Ul] at q
     simp? [bZ,cR,ro,Fy,br,Rw.w,Rw.ps,C.e0,v6,C.e6,j2,lT,iP,iu m,at_,fu,q]
  . have r0:=λg=>rw_0 r g;have rn: ∀ g,hI false (br r) g= .ok (.bl false) g:=λg=>IW;rw[n3];simp? [bZ,cR,ro,Fy,rn,r0,n1,n2]
theorem wV(k:Nat){H:PH}{n:Lo}{P:Pg}(ok:P.Ok){S:Wd}{N:Nat}(W:gQ P N S)(C:Cells H n S):run pg (k+3) "_law_can" [P.v,.ref (n.c 0)] H= .ok (.ref H.length) (H++[.lst ((dG P S).map gE)]):=by
 have hm:=ok.many;have i4: ∀ g,aw P.v (.int 4) g= .ok (.tup (P.hs.map bG)) g:=λg=>uJ;have tn:YB ((P.hs.length:Nat):Int)=P.hs.length:=Vr _;have lc:fH ⟨none,aE 0 P.hs.length⟩ (aQ 1 (gN 2) (aM (Bp (hI false) (ag "_law_wait" (a3 (aa 0) (aa 1) (aa 2))))) (aa 2) (run pg (k+2)) [some P.v,some (.ref (n.c 0))]) (aE 0 P.hs.length) [] H= .ok ((dG P S).map gE) H:=by
  refine(fE rfl (Vn P.hs.length) [] (f:=λj=>if decide (cU P S j= .non)=true then some (gE j) else none) (g:=λi:Nat=>PV.int (0+(i:Int))) (λi m=>?_) (by simp;omega)).trans (by rw[UR,nz];rfl);have iz:(0:Int)+(i:Int)=(i:Int):=XU _;have w:=vR T k ok W C (Wm.mp m);by_cases z:cU P S i= .non
  . simp? [iz,w,z,Jl,gE]
  . simp? [iz,w,z,Jl,gE]
 rw[run_eq T.yd rfl];simp? [ir,qx,i4,Ui,tn,lc];exact cg rfl
end
mutual
theorem EF(n:Nat): ∀ v:PV,v.flat=true->v.iU n=true
 | .tup xs,h=>by rw[PV.flat] at h;rw[PV.iU];exact hW n xs h
 | .ktup xs,h=>by rw[PV.flat] at h;rw[PV.iU];exact hW n xs h
 | .non,_=>rfl
 | .bl _,_=>rfl
 | .int _,_=>rfl
 | .str _,_=>rfl
 | .ty _,_=>rfl
 | .ref _,h=>nomatch h
theorem hW(n:Nat): ∀ xs:List PV,PV.bF xs=true->PV.jc n xs=true
 | [],_=>rfl
 | x::r,h=>by
  rw[PV.bF,UD] at h;rw[PV.jc,EF n x h.1,hW n r h.2];rfl
end
theorem mO{α :Type}{f: α ->PV}: ∀{l:List α},(∀ x∈l,(f x).flat=true)->PV.bF (l.map f)=true
 | [],_=>rfl
 | x::r,h=>by rw[Ul,PV.bF,h x Uv,mO λz m=>h z (Uz _ m)];rfl
theorem JC(n:Nat)(D:Pk):(PO.dct (cQ D)).iU n=true:=by
 show PV.jc n ((cQ D).map λkv=>kv.2)=true;unfold cQ;rw[Ve];exact hW n _ (mO (f:=(λkv:Key × PV=>kv.2) ∘ λq:Str × Int=>((.inr q.1:Key),PV.int q.2)) λ_ _=>rfl)
theorem fX{h h':PH}{v:PV}(e:h'.length=h.length):P3.settle h v h'= .ok v h':=by
 unfold P3.settle;split
 . rw [<- e,Zz]
 . rfl
theorem yI {h g:PH} {n:Nat} {o:PO} (l:n < h.length):(h++g).set n o=h.set n o++g:=aam _ _ l
theorem En {r:Rw} (h:dZ r=false): ¬ r.w∈(["clock", "lot", "hear"]:List Str):=by
 cases r<;>first | (simp only [Rw.w];decide +kernel) | exact nomatch h
theorem zV {L:List Str} {n:Nat} {r:Rw} (hr:eU L n r) (h:dZ r=true):(∃ x m,r= .lot x m∧2<=m∧m<=1000)∨(¬ r.w= "lot" /\ ∀ x m,¬ r= .lot x m):=by
 cases r with
 | lot x m=>exact .inl ⟨x,m,rfl,hr.2⟩
 | clock x=>exact .inr ⟨by simp only[Rw.w];decide +kernel,λ_ _ e=>nomatch e⟩
 | hear x d=>exact .inr ⟨by simp only[Rw.w];decide +kernel,λ_ _ e=>nomatch e⟩
 | _=>exact nomatch h
theorem Hx{m a b w:Int}(m0:2<=m)(a0:0<=a)(a1:a < m)(b0:0<=b)(b1:b < 2)(w0:0<=w)(w1:w < 4): ∃ v:Int,0<=v/\v < m/\dS [PV.int 0,.int (m - 1),.int a,.int b] w=some (.int v):=by
 rcases(show w=0\/w=1\/w=2\/w=3 by omega) with rfl | rfl | rfl | rfl
 . exact⟨0,by omega,by omega,q9⟩
 . exact⟨m - 1,by omega,by omega,xC⟩
 . exact⟨a,a0,a1,x8⟩
 . exact⟨b,b0,by omega,Dz⟩
section
variable{pg:Tb}(T:cb pg)
include T
theorem vx (j:Nat) (fr:PO) (q:Int × Int × Int) {L:List Str} {n:Nat} {r:Rw} (hr:eU L n r): ∃ (g:PV) (q':Int × Int × Int),fq r g∧ ∀ G,run pg (j+2) "_law_gift" [.ref 1,br r] (fr::aU q::G)= .ok g (fr::aU q'::G):=by
 have r0:=λg=>rw_0 r g;have nin: ∀ (a:Str) h,ko (.str a) (.tup [.str "clock",.str "lot",.str "hear"]) h= .ok (.bl (!decide (a∈(["clock", "lot", "hear"]:List Str)))) h:=λa h=>yE (ss:=["clock", "lot", "hear"]);cases hq:dZ r with
 | false =>
  have ng:=En hq
  refine⟨.non,q,⟨λe=>(nomatch (hq.symm.trans e)),λ_=>rfl⟩,λG=>?_⟩
  rw[run_eq T.i7 rfl]
  simp? [dO,gH,r0,nin,ng]
 | true =>
  obtain⟨m1,_⟩:=jN hq
  have fin_: ∀ m:Int,2<=m->m<=1000-> ∃(v:Int)(q':Int × Int × Int),0<=v/\v < m/\ ∀(G:PH)(e1:Option PV),∃ X:PH,(ay (ai aw (bN (ab (eI 0) (ab (ai qZ (aa 2) (eI 1)) (ab (ag "_law_take" (a2 (aa 0) (aa 2))) (ab (ag "_law_take" (a2 (aa 0) (eI 2))) ah))))) (ag "_law_take" (a2 (aa 0) (eI 4))))) (run pg (j+1)) [some (.ref 1),e1,some (.int m)] (fr::aU q::G)= .ok (.rt (.int v)) (fr::aU q'::(G++X)):=λm m0 m9=>by
   obtain⟨a,q1,a0,a1,ea⟩:=cC T j fr q m (by omega) (by omega);obtain⟨b,q2,b0,b1,eb⟩:=cC T j fr q1 2 (by decide) (by decide);obtain⟨w,q3,w0,w1,ew⟩:=cC T j fr q2 4 (by decide) (by decide);obtain⟨v,v0,v1,ev⟩:=Hx m0 a0 a1 b0 b1 w0 w1;refine⟨v,q3,v0,v1,λG e1=>⟨[.lst [.int 0,.int (m - 1),.int a,.int b]],?_⟩⟩;simp? [ea,eb,ew,ev]
  rcases zV hr hq with⟨x,m,rfl,m0,m9⟩ | ⟨nl,nl2⟩
  . obtain⟨v,q',v0,v1,fv⟩:=fin_ m m0 m9;refine⟨.int v,q',⟨λ_=>⟨v,rfl,v0,by omega,λx n e=>by cases e;exact v1⟩,λe=>(nomatch e)⟩,λG=>?_⟩;obtain⟨X,fx⟩:=fv G (some (br (.lot x m)));rw[run_eq T.i7 rfl];simp only[br,Rw.w,Rw.ps] at fx m1;simp? [dO,gH,br,Rw.w,Rw.ps,nin,m1,↓fx];exact dX rfl
  . obtain⟨v,q',v0,v1,fv⟩:=fin_ 1000 (by decide) (by decide);refine⟨.int v,q',⟨λ_=>⟨v,rfl,v0,by omega,λx n e=>absurd e (nl2 x n)⟩,λe=>(nomatch (hq.symm.trans e))⟩,λG=>?_⟩;obtain⟨X,fx⟩:=fv G (some (br r));rw[run_eq T.i7 rfl];simp? [dO,gH,r0,nin,m1,nl,↓fx];exact dX rfl
end
theorem tZ{P:Pg}{N:Nat}{S:Wd}(W:gQ P N S){b:Int × PV}(m:b∈S.ig):(gO b).flat=true:=by
 simp[gO,PV.flat,PV.bF,((W.bx b m).2).flat]
theorem vW{c:CF}{E:ao}{P:Pg}(ok:P.Ok){H:PH}{e1 e2 e3 e4 e5 e6 e7:Option PV}:fH ⟨none,P.bs.map cO⟩ (aQ 1 (gN 8) aP (eX 8 0) c [some P.v,e1,e2,e3,e4,e5,e6,e7]) (P.bs.map cO) [] H= .ok ((P.nm 0).map PV.str) H:=by
 show _=RV.ok ((P.bs.map (·.1)).map PV.str) H
 have b20:=ok.bx.1;rw[Ve];refine Mo (l:=P.bs) (f:=PV.str ∘ λz:Str × Int=>z.1) (by omega) λx _=>?_;simp? [cO];rfl
section
variable{pg:Tb}(T:cb pg)
include T
theorem Ar(k:Nat){H:PH}{n:Lo}{d:Nat}{P:Pg}(ok:P.Ok){S:Wd}{N:Nat}(W:gQ P N S)(C:Cells H n S){L:List Str}(hL:L.length<=20){D:Pk}(ed:H[d]?=some (.dct (cQ D)))(hD:oI L D){y b:Str}(m:b∈P.nm 0){z:Int × PV}(ez:S.ig[(P.nm 0).idxOf b]?=some z)(ev:PV):run pg (k+1) "_law_boxed" [P.v,.ref (n.c 0),br (.get y b),ev,.ref d] H= .ok (.tup [.str "get",.str b,.int z.1,z.2]) (H.set d (.dct (cQ (putD D y z.1)))):=by
 obtain⟨v1,v2,v3,v4,v5,v6⟩:=cK n;have i0: ∀ g,aw P.v (.int 0) g= .ok (.tup (P.bs.map cO)) g:=λg=>sZ;have old: ∀{i:Nat}{o:PO}(X:PH),H[i]?=some o->(H++X)[i]?=some o:=λX e=>(aq (aA e)).trans e;have c0:=old [.lst ((P.nm 0).map PV.str)] C.e0;have c4:=old [.lst ((P.nm 0).map PV.str)] C.e4;have cd:=old [.lst ((P.nm 0).map PV.str)] ed;have ix:=tR (h:=H++[.lst ((P.nm 0).map PV.str)]) (n:=H.length) bM m;have at_:=bE (f:=gO) ez;have zf:=tZ W (Uq ez);have ld:=aA ed;rw[run_eq T.kZ rfl];simp? (disch:=first | assumption | omega) only[dU,iB,br,Rw.w,Rw.ps,i0,vW (E:=[]) ok,C.e0,c0,v4,c4,cd,ix,at_,gO,kg (oB hL hD),jJ,yI];refine kA ?_ ed rfl (JC _ _);simp only[gO,PV.flat,PV.bF,aaI,abR] at zf ⊢;exact zf
theorem Al(k:Nat){H:PH}{n:Lo}{d:Nat}{P:Pg}(ok:P.Ok){S:Wd}{N:Nat}(W:gQ P N S)(C:Cells H n S){D:Pk}(ed:H[d]?=some (.dct (cQ D))){L:List Str}(hD:oI L D){b:Str}{e:Sm}(he:jC e)(m:b∈P.nm 0){z:Int × PV}(ez:S.ig[(P.nm 0).idxOf b]?=some z){ev:PV}(evf:ev.flat=true)(h40:n.c 4≠n.c 0):run pg (k+9) "_law_boxed" [P.v,.ref (n.c 0),br (.put b e),ev,.ref d] H= .ok (.tup [.str "put",.str b,.int (e.val (fP D)),z.2]) (H.set (n.c 4) (.lst ((S.ig.set ((P.nm 0).idxOf b) (e.val (fP D),ev)).map gO))):=by
 obtain⟨v1,v2,v3,v4,v5,v6⟩:=cK n;have i0: ∀ g,aw P.v (.int 0) g= .ok (.tup (P.bs.map cO)) g:=λg=>sZ;have old: ∀{i:Nat}{o:PO}(X:PH),H[i]?=some o->(H++X)[i]?=some o:=λX e=>(aq (aA e)).trans e;have c0:=old [.lst ((P.nm 0).map PV.str)] C.e0;have c4:=old [.lst ((P.nm 0).map PV.str)] C.e4;have cd:=old [.lst ((P.nm 0).map PV.str)] ed;have ix:=tR (h:=H++[.lst ((P.nm 0).map PV.str)]) (n:=H.length) bM m;have at_:=bE (f:=gO) ez;have zf:=tZ W (Uq ez);have ld:=aA C.e4;have lk:(P.nm 0).idxOf b < S.ig.length:=(Uh.mp ez).1;have w:=pM T hD.rR e (k+7) _ cd he.1 (by have:=he.2;omega)
 let B:=S.ig.set ((P.nm 0).idxOf b) (e.val (fP D),ev)
 have at2:dS (B.map gO) ((P.nm 0).idxOf b:Int)=some (gO (e.val (fP D),ev)):=bE (U1 lk);have bB:(S.ig.map gO).set ((P.nm 0).idxOf b) (.tup [.int (e.val (fP D)),ev])=B.map gO:=bL gO S.ig _ (e.val (fP D),ev);have pl:=λh v=>lM (h:=h) (n:=n.c 4) (xs:=S.ig.map gO) (v:=v) (i:=((P.nm 0).idxOf b:Int)) rfl (by rw[Ui];exact lk);rw[run_eq T.kZ rfl];have o0: ∀ o:PO,(H.set (n.c 4) o++[.lst ((P.nm 0).map PV.str)])[n.c 0]?=some (.dct (eO n)):=λo=>by rw[aq (by rw[UW];exact aA C.e0),bp h40];exact C.e0
 have o4: ∀ o:PO,(H.set (n.c 4) o++[.lst ((P.nm 0).map PV.str)])[n.c 4]?=some o:=λo=>by rw[aq (by rw[UW];exact ld)];exact nc ld
 have uf:(PO.lst (B.map gO)).iU H.length=true:=hW _ _ (mO λq mq=>by
  rcases Vk mq with mq | rfl
  . exact tZ W mq
  . simp[gO,PV.flat,PV.bF,evf])
 show _=RV.ok _ (H.set (n.c 4) (.lst (B.map gO)))
 clear_value B
 simp only[gO] at at2 at_ zf;simp? (disch:=first | assumption | omega) only[dU,iB,br,Rw.w,Rw.ps,i0,vW (E:=[]) ok,c0,v4,c4,ix,at_,w,pl,bB,yI,o0,o4,at2];refine kA ?_ C.e4 rfl uf;simp only[PV.flat,PV.bF,aaI,abR] at zf ⊢;exact zf
theorem v8(k:Nat){H:PH}{n:Lo}{d:Nat}{P:Pg}{S:Wd}(C:Cells H n S){hl:List Str}(eh:H[d]?=some (.lst (hl.map PV.str)))(hd:n.c 5≠d)(hh:hl.length<=1000){l:Str}(m:l∈P.s1){z:Option Int × PV}(ez:S.ee[P.s1.idxOf l]?=some z)(j:Nat)(c:Int):run pg (k+1) "_law_locked" [P.v,.ref (n.c 0),br (.take l),jD j c,.ref d] H= .ok (.tup [.str "take",.str l,.non,z.2]) ((H.set (n.c 5) (.lst ((S.ee.set (P.s1.idxOf l) (some (j:Int),z.2)).map fz))).set d (.lst ((hl++[l]).map PV.str))):=by
 obtain⟨v1,v2,v3,v4,v5,v6⟩:=cK n;have j1: ∀ g,aw P.v (.int 1) g= .ok (.tup (P.s1.map PV.str)) g:=λg=>jX;have at_:=bE (f:=fz) ez;have ld:=aA C.e5;have lk:P.s1.idxOf l < S.ee.length:=(Uh.mp ez).1
 let B:=S.ee.set (P.s1.idxOf l) (some (j:Int),z.2)
 have bB:(S.ee.map fz).set (P.s1.idxOf l) (.tup [.int (j:Int),z.2])=B.map fz:=bL fz S.ee _ (some (j:Int),z.2);have pl:=λh v=>lM (h:=h) (n:=n.c 5) (xs:=S.ee.map fz) (v:=v) (i:=(P.s1.idxOf l:Int)) rfl (by rw[Ui];exact lk);have od: ∀ o:PO,(H.set (n.c 5) o)[d]?=some (.lst (hl.map PV.str)):=λo=>by rw[bp hd];exact eh
 have hz:(hl.map PV.str).length < 16777216:=by rw[Ui];omega
 show _=RV.ok _ ((H.set (n.c 5) (.lst (B.map fz))).set d (.lst ((hl++[l]).map PV.str)));rw[Vh,run_eq T.ke rfl]
 clear_value B
 simp only[fz] at at_;simp? (disch:=first | assumption | omega) only[dz,gR,br,Rw.w,Rw.ps,jD,j1,lT,iP,iu m,C.e0,v5,C.e5,at_,pl,bB,od,pY hz];exact fX (by rw[UW,UW])
theorem wt(k:Nat){H:PH}{n:Lo}{d:Nat}{P:Pg}{S:Wd}(C:Cells H n S){hl:List Str}(eh:H[d]?=some (.lst (hl.map PV.str)))(hd:n.c 5≠d){l:Str}(hm:l∈hl)(m:l∈P.s1){z:Option Int × PV}(ez:S.ee[P.s1.idxOf l]?=some z)(j:Nat)(c:Int):run pg (k+1) "_law_locked" [P.v,.ref (n.c 0),br (.free l),jD j c,.ref d] H= .ok (.tup [.str "free",.str l,.non,.non]) ((H.set (n.c 5) (.lst ((S.ee.set (P.s1.idxOf l) (none,jD j c)).map fz))).set d (.lst ((qK hl l).map PV.str))):=by
 obtain⟨v1,v2,v3,v4,v5,v6⟩:=cK n;have j1: ∀ g,aw P.v (.int 1) g= .ok (.tup (P.s1.map PV.str)) g:=λg=>jX;have at_:=bE (f:=fz) ez;have lk:P.s1.idxOf l < S.ee.length:=(Uh.mp ez).1
 let B:=S.ee.set (P.s1.idxOf l) (none,jD j c)
 have bB:(S.ee.map fz).set (P.s1.idxOf l) (.tup [.non,.tup [.int (j:Int),.int c]])=B.map fz:=bL fz S.ee _ (none,jD j c);have pl:=λh v=>lM (h:=h) (n:=n.c 5) (xs:=S.ee.map fz) (v:=v) (i:=(P.s1.idxOf l:Int)) rfl (by rw[Ui];exact lk);have od: ∀ o:PO,(H.set (n.c 5) o)[d]?=some (.lst (hl.map PV.str)):=λo=>by rw[bp hd];exact eh
 have rm:=λo=>Ss (h:=H.set (n.c 5) o) (n:=d) (od o) hm;show _=RV.ok _ ((H.set (n.c 5) (.lst (B.map fz))).set d (.lst ((qK hl l).map PV.str)));rw[run_eq T.ke rfl]
 clear_value B
 simp only[fz] at at_;simp? (disch:=first | assumption | omega) only[dz,gR,br,Rw.w,Rw.ps,jD,j1,lT,iP,iu m,C.e0,v5,C.e5,at_,pl,bB,od,rm];exact fX (by rw[UW,UW])
theorem xo(k:Nat){H:PH}{n:Lo}{d:Nat}{P:Pg}{S:Wd}(C:Cells H n S){D:Pk}(ed:H[d]?=some (.dct (cQ D))){L:List Str}(hD:oI L D){l:Str}{e:Sm}(he:jC e)(m:l∈P.s2){z:Int × Int × List Int}(ez:S.cY[P.s2.idxOf l]?=some z)(hz:z.2.2.length<=1000):run pg (k+9) "_law_laned" [P.v,.ref (n.c 0),br (.send l e),.ref d] H= .ok (.tup [.str "send",.str l,.int (e.val (fP D)),.int z.1]) (H.set (n.c 6) (.lst ((S.cY.set (P.s2.idxOf l) (z.1+1,z.2.1,z.2.2++[e.val (fP D)])).map fu))):=by
 obtain⟨v1,v2,v3,v4,v5,v6⟩:=cK n;have j2: ∀ g,aw P.v (.int 2) g= .ok (.tup (P.s2.map PV.str)) g:=λg=>uR;have at_:=bE (f:=fu) ez;have lk:P.s2.idxOf l < S.cY.length:=(Uh.mp ez).1;have w:=pM T hD.rR e (k+7) _ ed he.1 (by have:=he.2;omega)
 let B:=S.cY.set (P.s2.idxOf l) (z.1+1,z.2.1,z.2.2++[e.val (fP D)])
 have bB:(S.cY.map fu).set (P.s2.idxOf l) (.tup [.int (z.1+1),.int z.2.1,.tup ((z.2.2++[e.val (fP D)]).map PV.int)])=B.map fu:=bL fu S.cY _ (z.1+1,z.2.1,z.2.2++[e.val (fP D)]);have pl:=λh v=>lM (h:=h) (n:=n.c 6) (xs:=S.cY.map fu) (v:=v) (i:=(P.s2.idxOf l:Int)) rfl (by rw[Ui];exact lk);have ad: ∀ g,bf (.tup (z.2.2.map PV.int)) (.tup [.int (e.val (fP D))]) g= .ok (.tup ((z.2.2++[e.val (fP D)]).map PV.int)) g:=λg=>by
  rw[jO (by simp only[Ui,Um,UL];omega),Vh];rfl
 show _=RV.ok _ (H.set (n.c 6) (.lst (B.map fu)));rw[run_eq T.kW rfl]
 clear_value B
 simp only[fu] at at_;simp? (disch:=first | assumption | omega) only[d6,ip,br,Rw.w,Rw.ps,j2,lT,iP,iu m,C.e0,v6,C.e6,at_,w,↓ad,pl,bB];exact fX (by rw[UW])
theorem vX(k:Nat){H:PH}{n:Lo}{d:Nat}{P:Pg}{S:Wd}(C:Cells H n S){D:Pk}(ed:H[d]?=some (.dct (cQ D)))(hd:n.c 6≠d){L:List Str}(hL:L.length<=20)(hD:oI L D){y l:Str}(m:l∈P.s2){a b i:Int}{ls:List Int}(ez:S.cY[P.s2.idxOf l]?=some (a,b,i::ls)):run pg (k+1) "_law_laned" [P.v,.ref (n.c 0),br (.fetch y l),.ref d] H= .ok (.tup [.str "fetch",.str l,.int i,.int b]) ((H.set (n.c 6) (.lst ((S.cY.set (P.s2.idxOf l) (a,b+1,ls)).map fu))).set d (.dct (cQ (putD D y i)))):=by
 obtain⟨v1,v2,v3,v4,v5,v6⟩:=cK n;have j2: ∀ g,aw P.v (.int 2) g= .ok (.tup (P.s2.map PV.str)) g:=λg=>uR;have at_:=bE (f:=fu) ez;have lk:P.s2.idxOf l < S.cY.length:=(Uh.mp ez).1
 let B:=S.cY.set (P.s2.idxOf l) (a,b+1,ls)
 have bB:(S.cY.map fu).set (P.s2.idxOf l) (.tup [.int a,.int (b+1),.tup (ls.map PV.int)])=B.map fu:=bL fu S.cY _ (a,b+1,ls);have pl:=λh v=>lM (h:=h) (n:=n.c 6) (xs:=S.cY.map fu) (v:=v) (i:=(P.s2.idxOf l:Int)) rfl (by rw[Ui];exact lk);have od: ∀ o:PO,(H.set (n.c 6) o)[d]?=some (.dct (cQ D)):=λo=>by rw[bp hd];exact ed
 show _=RV.ok _ ((H.set (n.c 6) (.lst (B.map fu))).set d (.dct (cQ (putD D y i))));rw[run_eq T.kW rfl]
 clear_value B
 simp only[fu,Ul] at at_;simp? (disch:=first | assumption | omega) only[d6,ip,br,Rw.w,Rw.ps,j2,lT,iP,iu m,C.e0,v6,C.e6,at_,qu,pl,bB,od,kg (oB hL hD),jJ];exact fX (by rw[UW,UW])
end
theorem AM(s:aF)(v:PV)(r:Rw):(after s v r).row=s.row+1:=by cases r<;>rfl
theorem wy{L:List Str}{rs:List Rw}{s:aF}{r:Rw}{v:PV}(hs:dq L rs s)(e:rs[s.row]?=some r)(hr:eU L rs.length r)(hv: ∀ x,r.fU=some x-> ∃ i:Int,v= .int i/\0<=i/\i<=999):dq L rs (after s v r):=by
 have hlt:s.row < rs.length:=(Uh.mp e).1;rcases rw_cls r with⟨x,hx⟩ | ⟨l,rfl⟩ | ⟨l,rfl⟩ | ⟨_,af⟩
 . obtain⟨i,rfl,h0,h9⟩:=hv x hx;rw[jq hx];exact⟨yq hs.pk (hr.pk hx) h0 h9,hlt⟩
 . exact⟨hs.pk,hlt⟩
 . exact⟨hs.pk,hlt⟩
 . rw[af];exact⟨hs.pk,hlt⟩
theorem pT{P:Pg}{S:Wd}{j:Nat}{x:Str × List Rw}{s:aF}{y l:Str}(ex:P.hs[j]?=some x)(es:S.aW[j]?=some s)(er:x.2[s.row]?=some (.fetch y l))(hw:cU P S j= .non){z:Int × Int × List Int}(ez:S.cY[(P.nm 2).idxOf l]?=some z): ∃ a b i ls,z=(a,b,i::ls):=by
 obtain⟨za,zb,zl⟩:=z;cases zl with
 | cons i ls=>exact⟨za,zb,i,ls,rfl⟩
 | nil =>
  unfold cU at hw
  rw[eV ex es,er] at hw
  simp only[kh,ez] at hw
  exact nomatch hw
theorem uc{P:Pg}{N:Nat}{S:Wd}(W:gQ P N S):S.ig.length=(P.nm 0).length:=by rw[W.l0];exact(Ui ..).symm
theorem wH{P:Pg}(ok:P.Ok){N:Nat}{S:Wd}(W:gQ P N S){j:Nat}{x:Str × List Rw}{s:aF}{c:Int}{r:Rw}(ex:P.hs[j]?=some x)(es:S.aW[j]?=some s)(er:x.2[s.row]?=some r)(hw:cU P S j= .non){g:PV}(hg:fq r g): ∀ y,r.fU=some y-> ∃ i:Int,(met P S j c s g r).2.1= .int i/\0<=i/\i<=999:=by
 have mr:=Uq er;have gi:dZ r=true-> ∃ i:Int,(met P S j c s g r).2.1= .int i/\0<=i/\i<=999:=λhq=>by
  obtain⟨i,rfl,h0,h9,_⟩:=hg.1 hq;rw[(jN hq).2.2];exact⟨i,rfl,h0,h9⟩
 intro y hy;cases r with
 | get y' b =>
  obtain⟨z,ez,mz⟩:=bg (uc W) (bK ok ex mr (k:=0) (t:=b) rfl)
  exact⟨z.1,by simp only[met,ez,UH],(W.bx z mz).1⟩
 | fetch y' l =>
  obtain⟨z,ez,mz⟩:=bg (l:=S.cY) (ns:=P.nm 2) W.l2 (bK ok ex mr (k:=2) (t:=l) rfl)
  obtain⟨a,b,i,ls,rfl⟩:=pT ex es er hw ez
  exact⟨i,by simp only[met,ez,UH,Yo],(W.ln _ mz).2.2.2 i Uv⟩
 | clock _=>exact gi rfl
 | lot _ _=>exact gi rfl
 | hear _ _=>exact gi rfl
 | _=>exact nomatch hy
theorem Rep.Mw{H:PH}{n:Lo}{P:Pg}{S:Wd}{ss:List aF}(R:Rep H n P S ss){j:Nat}{s s':aF}(es:ss[j]?=some s)(hp:s'.ps=s.ps)(hh:s'.held=s.held):Rep H n P S (ss.set j s'):=by
 refine⟨R.ap,R.c,λi y t ey et=>?_⟩;have lj:=(Uh.mp es).1;by_cases z:j=i
 . subst z;rw[U1 lj] at et;cases et;obtain⟨D,hl,h1,h2,h3,h4,h5,h6⟩:=R.p j y s ey es;exact⟨D,hl,h1,h2,h3,by rw[hp];exact h4,h5,by rw[hh];exact h6⟩
 . rw[Vm z] at et;exact R.p i y t ey et
theorem BH{hl:List Str}(nd:hl.Nodup)(a y:Str):y∈qK hl a↔y∈hl/\y≠a:=by
 unfold qK;rw[<- List.erase_eq_eraseIdx_of_idxOf rfl,nd.mem_erase_iff];exact And.comm
theorem Hy{hl:List Str}(nd:hl.Nodup)(a:Str):(qK hl a).Nodup:=by
 unfold qK;exact nd.sublist (List.eraseIdx_sublist ..)
noncomputable def BA:MS:=(b6 (aM (ai iW (eX 7 0) (au (a2 (eS "get") (eS "put"))))) (ak (ag "_law_boxed" (ab (aa 0) (ab (aa 1) (a3 (aa 7) (aa 8) (aa 5))))) (gN 9)) (b6 (aM (ai iW (eX 7 0) (au (a2 (eS "take") (eS "free"))))) (ak (ag "_law_locked" (ab (aa 0) (ab (aa 1) (a3 (aa 7) (aa 8) (aa 6))))) (gN 9)) (b6 (aM (ai iW (eX 7 0) (au (a2 (eS "send") (eS "fetch"))))) (ak (ag "_law_laned" (ab (aa 0) (a3 (aa 1) (aa 7) (aa 5)))) (gN 9)) (b6 (mQ (eX 7 0) (eS "say")) (ae (ak (E9 (eX 0 3) (a1 (eX 7 1))) (gN 10))
  (ae (ak (au (ab (eS "say") (ab (eX 7 1) (ab (ag "_law_worth" (a2 (eX 7 2) (aa 5))) (ab (ai aw (ai aw (aa 1) (eS "doors")) (aa 10)) ah))))) (gN 9))
  (eJ dI (ai aw (aa 1) (eS "doors")) (aa 10) (ai bf (ai aw (ai aw (aa 1) (eS "doors")) (aa 10)) (eI 1))))) (ae (eJ dI (aa 5) (eX 7 1) (aa 3))
  (ak (au (ab (eX 7 0) (ab (uz (mQ (eX 7 0) (eS "hear")) (eX 7 2) (eS "")) (a2 (aa 3) (eC .non))))) (gN 9)))))))
theorem EI(a b c:Str)(h:PH):iW (.str a) (.tup [.str b,.str c]) h= .ok (.bl (decide (a=b\/a=c))) h:=by
 have:=xq (a:=a) (ss:=[b,c]) (h:=h);simpa using this
section
variable{pg:Tb}(T:cb pg)
include T
theorem L8(k:Nat){H:PH}{n:Lo}{P:Pg}(ok:P.Ok){S:Wd}{N:Nat}(W:gQ P N S)(N9:N<=60)(R:Rep H n P S S.aW){j:Nat}{x:Str × List Rw}{s:aF}{c:Int}{r:Rw}(ex:P.hs[j]?=some x)(es:S.aW[j]?=some s)(ec:S.cA[j]?=some c)(er:x.2[s.row]?=some r)(hw:cU P S j= .non){g:PV}(hg:fq r g)(e4:Option PV) :
  ∃(H1:PH)(f10:Option PV),Fr n P.hs.length H H1/\Rep H1 n P (met P S j c s g r).1 (S.aW.set j (after s (met P S j c s g r).2.1 r)) /\
   BA (run pg (k+10)) [some P.v,some (.ref (n.c 0)),some (.int j),some g,e4,some (.ref (n.p j)),some (.ref (n.q j)),some (br r),some (jD j c),none,none] H= .ok (.nx [some P.v,some (.ref (n.c 0)),some (.int j),some g,e4,some (.ref (n.p j)),some (.ref (n.q j)),some (br r),some (jD j c),some (dJ r (met P S j c s g r).2.1 (met P S j c s g r).2.2),f10]) H1:=by
 have so:=W.se j x s ex es;have mr:=Uq er;have C:=R.cells;have lj:=(Uh.mp ex).1;obtain⟨l1,l2,l3⟩:=dR (ok.hd x (Uq ex));obtain⟨D,hl,p1,p2,p3,p4,p5,p6⟩:=R.p j x s ex es;have hr:=l3 r mr;have hv:=wH ok W (c:=c) ex es er hw hg;have ow:=(iZ so.re er).1;have cl:=(iZ so.re er).2;obtain⟨v1,v2,v3,v4,v5,v6⟩:=cK n;have ff:fP D=fP s.ps:=funext p4;have ld:=aA p1;have ll:=aA p2;have hl9:=oB (by omega) p3;have gi:dZ r=true-> ∀ y,r.fU=some y->(∀ h,aw (br r) (.int 1) h= .ok (.str y) h)-> ∃(H1:PH),Fr n P.hs.length H H1/\Rep H1 n P (met P S j c s g r).1 (S.aW.set j (after s (met P S j c s g r).2.1 r))/\ ∃ i:Int,g= .int i/\H1=H.set (n.p j) (.dct (cQ (putD D y i))):=λhq y hy _=>by
  obtain⟨i,rfl,h0,h9,_⟩:=hg.1 hq;refine⟨_,Fr.refl.set (y7 lj),?_,i,rfl,rfl⟩;rw[(jN hq).2.2];exact R.put ex es (oD p3 (hr.pk hy) h0 h9) (λz=>by rw[jq hy,oq,p4];exact(sH so.so.pk.nd y i z).symm) (by rw[jq hy])
 cases r with
 | get y b =>
  have m:=bK ok ex mr (k:=0) (t:=b) rfl
  obtain⟨z,ez,mz⟩:=bg (uc W) m
  have hz:=(W.bx z mz).1
  have st:=Ar T (k+9) ok W C (by omega) p1 p3 (y:=y) m ez (jD j c)
  refine⟨_,none,Fr.refl.set (i:=n.p j) (o:= .dct (cQ (putD D y z.1))) (y7 lj),?_,?_⟩
  . simp only[met,ez,UH];exact R.put ex es (oD p3 hr hz.1 hz.2) (λq=>by rw[oq,p4];exact(sH so.so.pk.nd y z.1 q).symm) rfl
  . simp only[br,Rw.w,Rw.ps] at st;simp? [BA,br,Rw.w,Rw.ps,EI,st,met,ez,UH,dJ,Rw.tg,Rw.th,true_or,or_true,or_false,false_or]
 | put b e =>
  have m:=bK ok ex mr (k:=0) (t:=b) rfl
  obtain⟨z,ez,mz⟩:=bg (uc W) m
  have st:=Al T (k+1) ok W C p1 p3 hr m ez (ev:=jD j c) rfl (R.ap.cc 4 0 (by decide) (by decide) (by decide))
  rw[ff] at st
  refine⟨_,none,Fr.refl.set (i:=n.c 4) (o:= .lst ((S.ig.set ((P.nm 0).idxOf b) (e.val (fP s.ps),jD j c)).map gO)) (nB (by decide)),?_,?_⟩
  . refine Rep.Mw (s:=s) ?_ es rfl rfl;exact R.set (i:=4) (S':={ S with ig:=S.ig.set ((P.nm 0).idxOf b) (e.val (fP s.ps),jD j c) }) (by decide) (by rintro (_ | _ | _ | _ | _ | _ | _ | _) a b<;>first | rfl | omega)
  . simp only[br,Rw.w,Rw.ps] at st;simp? [BA,br,Rw.w,Rw.ps,EI,st,met,ez,UH,dJ,Rw.tg,Rw.th,true_or,or_true,or_false,false_or]
 | take l =>
  have m:l∈P.s1:=bK ok ex mr (k:=1) (t:=l) rfl
  obtain⟨z,ez,mz⟩:=bg (l:=S.ee) (ns:=P.s1) W.l1 m
  have ez':S.ee[(P.nm 1).idxOf l]?=some z:=ez
  have nl:l ∉ s.held:=by simpa [own] using ow
  have hh:hl.length<=1000:=by
   have:=WS p5 (l₂ :=s.held) λy hy=>(p6 y).mp hy;have:=so.le;omega
  have st:=v8 T (k+9) (P:=P) C p2 (R.ap.cq 5 j (by decide) lj) hh m ez j c
  refine⟨_,none,(Fr.refl.set (i:=n.c 5) (o:= .lst ((S.ee.set (P.s1.idxOf l) (some (j:Int),z.2)).map fz)) (nB (by decide))).set (i:=n.q j) (o:= .lst ((hl++[l]).map PV.str)) (IU lj),?_,?_⟩
  . simp only[met,ez',UH];refine(R.set (i:=5) (S':={ S with ee:=S.ee.set (P.s1.idxOf l) (some (j:Int),z.2) }) (by decide) (by rintro (_ | _ | _ | _ | _ | _ | _ | _) a b<;>first | rfl | omega)).hold ex es ?_ (λy=>?_) rfl
    . exact Xb.mpr ⟨p5,by simp,λa ha b hb e=>nl (by rw[<- Vc.mp hb,<- e];exact(p6 a).mp ha)⟩
    . show y∈hl++[l]↔y∈cv (s.held++[l]);rw[(cm _).mem_iff,Vl,Vl,p6]
  . simp only[br,Rw.w,Rw.ps] at st;simp? [BA,br,Rw.w,Rw.ps,EI,st,met,ez',UH,dJ,Rw.tg,Rw.th,true_or,or_true,or_false,false_or]
 | free l =>
  have m:l∈P.s1:=bK ok ex mr (k:=1) (t:=l) rfl
  obtain⟨z,ez,mz⟩:=bg (l:=S.ee) (ns:=P.s1) W.l1 m
  have ih:l∈s.held:=by simpa [own] using ow
  have st:=wt T (k+9) (P:=P) C p2 (R.ap.cq 5 j (by decide) lj) ((p6 l).mpr ih) m ez j c
  refine⟨_,none,(Fr.refl.set (i:=n.c 5) (o:= .lst ((S.ee.set (P.s1.idxOf l) (none,jD j c)).map fz)) (nB (by decide))).set (i:=n.q j) (o:= .lst ((qK hl l).map PV.str)) (IU lj),?_,?_⟩
  . refine(R.set (i:=5) (S':={ S with ee:=S.ee.set (P.s1.idxOf l) (none,jD j c) }) (by decide) (by rintro (_ | _ | _ | _ | _ | _ | _ | _) a b<;>first | rfl | omega)).hold ex es (Hy p5 l) (λy=>?_) rfl;rw[BH p5,p6];show _↔y∈s.held.filter λz=> !decide (z=l);rw[VL];simp
  . simp only[br,Rw.w,Rw.ps] at st;simp? [BA,br,Rw.w,Rw.ps,EI,st,met,dJ,Rw.tg,Rw.th,true_or,or_true,or_false,false_or]
 | send l e =>
  have m:l∈P.s2:=bK ok ex mr (k:=2) (t:=l) rfl
  obtain⟨z,ez,mz⟩:=bg (l:=S.cY) (ns:=P.s2) W.l2 m
  have ez':S.cY[(P.nm 2).idxOf l]?=some z:=ez
  have hz:=(W.ln z mz).2.2.1
  have st:=xo T (k+1) (P:=P) C p1 p3 hr m ez (by omega)
  rw[ff] at st
  refine⟨_,none,Fr.refl.set (i:=n.c 6) (o:= .lst ((S.cY.set (P.s2.idxOf l) (z.1+1,z.2.1,z.2.2++[e.val (fP s.ps)])).map fu)) (nB (by decide)),?_,?_⟩
  . simp only[met,ez',UH];refine Rep.Mw (s:=s) ?_ es rfl rfl;exact R.set (i:=6) (S':={ S with cY:=S.cY.set (P.s2.idxOf l) (z.1+1,z.2.1,z.2.2++[e.val (fP s.ps)]) }) (by decide) (by rintro (_ | _ | _ | _ | _ | _ | _ | _) a b<;>first | rfl | omega)
  . simp only[br,Rw.w,Rw.ps] at st;simp? [BA,br,Rw.w,Rw.ps,EI,st,met,ez',UH,dJ,Rw.tg,Rw.th,true_or,or_true,or_false,false_or]
 | fetch y l =>
  have m:l∈P.s2:=bK ok ex mr (k:=2) (t:=l) rfl
  obtain⟨z,ez,mz⟩:=bg (l:=S.cY) (ns:=P.s2) W.l2 m
  obtain⟨a,b,i,ls,rfl⟩:=pT ex es er hw (z:=z) ez
  have ez':S.cY[(P.nm 2).idxOf l]?=some (a,b,i::ls):=ez
  have hi:=(W.ln _ mz).2.2.2 i Uv
  have st:=vX T (k+9) (P:=P) C p1 (R.ap.cp 6 j (by decide) lj) (by omega) p3 (y:=y) m ez
  refine⟨_,none,(Fr.refl.set (i:=n.c 6) (o:= .lst ((S.cY.set (P.s2.idxOf l) (a,b+1,ls)).map fu)) (nB (by decide))).set (i:=n.p j) (o:= .dct (cQ (putD D y i))) (y7 lj),?_,?_⟩
  . simp only[met,ez',UH,abM,Yo];refine(R.set (i:=6) (S':={ S with cY:=S.cY.set (P.s2.idxOf l) (a,b+1,ls) }) (by decide) (by rintro (_ | _ | _ | _ | _ | _ | _ | _) a b<;>first | rfl | omega)).put ex es (oD p3 hr hi.1 hi.2) (λq=>?_) rfl;rw[oq,p4];exact(sH so.so.pk.nd y i q).symm
  . simp only[br,Rw.w,Rw.ps] at st;simp? [BA,br,Rw.w,Rw.ps,EI,st,met,ez',UH,Yo,dJ,Rw.tg,Rw.th,true_or,or_true,or_false,false_or]
 | say d e =>
  have m:d∈P.s3:=bK ok ex mr (k:=3) (t:=d) rfl
  obtain⟨z,ez,mz⟩:=bg (l:=S.jY) (ns:=P.s3) W.l3 m
  have ez':S.jY[(P.nm 3).idxOf d]?=some z:=ez
  have j3: ∀ g,aw P.v (.int 3) g= .ok (.tup (P.s3.map PV.str)) g:=λg=>Bm
  have at_:=bE (f:=PV.int) ez
  have lk:P.s3.idxOf d < S.jY.length:=(Uh.mp ez).1
  have w:run pg (k+10) "_law_worth" [hZ e,.ref (n.p j)] H= .ok (.int (e.val (fP s.ps))) H:=by
   rw[<- ff];exact pM T p3.rR e (k+9) _ p1 hr.1 (by have:=hr.2;omega)
  have pl:=λh v=>lM (h:=h) (n:=n.c 3) (xs:=S.jY.map PV.int) (v:=v) (i:=(P.s3.idxOf d:Int)) rfl (by rw[Ui];exact lk)
  have bB:(S.jY.map PV.int).set (P.s3.idxOf d) (.int (z+1))=(S.jY.set (P.s3.idxOf d) (z+1)).map PV.int:=bL PV.int S.jY _ (z+1)
  refine⟨_,some (.int (P.s3.idxOf d:Nat)),Fr.refl.set (i:=n.c 3) (o:= .lst ((S.jY.set (P.s3.idxOf d) (z+1)).map PV.int)) (nB (by decide)),?_,?_⟩
  . simp only[met,ez',UH];refine Rep.Mw (s:=s) ?_ es rfl rfl;exact R.set (i:=3) (S':={ S with jY:=S.jY.set (P.s3.idxOf d) (z+1) }) (by decide) (by rintro (_ | _ | _ | _ | _ | _ | _ | _) a b<;>first | rfl | omega)
  . simp? [BA,br,Rw.w,Rw.ps,EI,j3,lT,iP,iu m,w,C.e0,v3,C.e3,at_,pl,bB,met,ez',UH,dJ,Rw.tg,Rw.th,true_or,or_true,or_false,false_or]
 | clock y =>
  obtain⟨H1,f,rp,i,rfl,rfl⟩:=gi rfl y rfl (λh=>jX)
  refine⟨_,none,f,rp,?_⟩
  simp? [BA,br,Rw.w,Rw.ps,EI,p1,kg hl9,jJ,met,dJ,Rw.tg,Rw.th,true_or,or_true,or_false,false_or]
 | lot y q =>
  obtain⟨H1,f,rp,i,rfl,rfl⟩:=gi rfl y rfl (λh=>jX)
  refine⟨_,none,f,rp,?_⟩
  simp? [BA,br,Rw.w,Rw.ps,EI,p1,kg hl9,jJ,met,dJ,Rw.tg,Rw.th,true_or,or_true,or_false,false_or]
 | hear y d =>
  obtain⟨H1,f,rp,i,rfl,rfl⟩:=gi rfl y rfl (λh=>jX)
  refine⟨_,none,f,rp,?_⟩
  simp? [BA,br,Rw.w,Rw.ps,EI,p1,kg hl9,jJ,met,dJ,Rw.tg,Rw.th,true_or,or_true,or_false,false_or]
 | let_ _ _=>exact nomatch ow
 | leap _ _=>exact nomatch ow
end
section
variable{pg:Tb}(T:cb pg)
include T
theorem rC(k:Nat){H:PH}{n:Lo}{P:Pg}(ok:P.Ok){S:Wd}{N:Nat}(W:gQ P N S)(N9:N<=60)(R:Rep H n P S S.aW){j:Nat}{x:Str × List Rw}{s:aF}{c:Int}{r:Rw}(ex:P.hs[j]?=some x)(es:S.aW[j]?=some s)(ec:S.cA[j]?=some c)(er:x.2[s.row]?=some r)(hw:cU P S j= .non){g:PV}(hg:fq r g) :
  ∃ H1:PH,Fr n P.hs.length H H1/\Rep H1 n P (gc P S j c x.2 s g r) (gc P S j c x.2 s g r).aW/\run pg (k+11) "_law_go" [P.v,.ref (n.c 0),.int j,g] H= .ok (dJ r (met P S j c s g r).2.1 (met P S j c s g r).2.2) H1:=by
 have C:=R.cells;have lj:=(Uh.mp ex).1;have so:=W.se j x s ex es;obtain⟨l1,l2,l3⟩:=dR (ok.hd x (Uq ex));obtain⟨v1,v2,v3,v4,v5,v6⟩:=cK n;obtain⟨H1,f10,F1,R1,A4⟩:=L8 T k ok W N9 R ex es ec er hw hg (some (.int s.row));have hv:=wH ok W (c:=c) ex es er hw hg;have mc:(met P S j c s g r).1.cA=S.cA/\(met P S j c s g r).1.aW=S.aW:=by cases r<;>exact⟨rfl,rfl⟩
 let M:=(met P S j c s g r).1
 let v:=(met P S j c s g r).2.1
 let m:=(met P S j c s g r).2.2
 let t:=after s v r
 have lc:j < S.cA.length:=(Uh.mp ec).1;have ls:j < S.aW.length:=(Uh.mp es).1;have R2:Rep (H1.set (n.c 1) (.lst ((S.cA.set j (c+1)).map PV.int))) n P { M with cA:=S.cA.set j (c+1) } (S.aW.set j t):=R1.set (i:=1) (S':={ M with cA:=S.cA.set j (c+1) }) (by decide) (by rintro (_ | _ | _ | _ | _ | _ | _ | _) a b<;>first | rfl | omega)
 let H2:=H1.set (n.c 1) (.lst ((S.cA.set j (c+1)).map PV.int))
 have et:(S.aW.set j t)[j]?=some t:=U1 ls;have hs1:dq (F0 x) x.2 t:=wy so.so er (l3 r (Uq er)) hv;obtain⟨D,hl,p1,p2,p3,p4,p5,p6⟩:=R2.p j x t ex et;obtain⟨D',d1,d2,d3⟩:=yY T k H2 (d:=n.p j) (l:=n.q j) (R.ap.pq j j lj lj) (by omega) l3 p1 p2 p6 hs1 p3 p4
 let t':=bh x.2 200 t
 have R3:Rep (H2.set (n.p j) (.dct (cQ D'))) n P { M with cA:=S.cA.set j (c+1) } ((S.aW.set j t).set j t'):=R2.put ex et d1 d2 (cW 200 t);rw[List.set_set] at R3
 let H3:=H2.set (n.p j) (.dct (cQ D'))
 have R4:Rep (H3.set (n.c 2) (.lst (sL n (S.aW.set j t')))) n P { M with cA:=S.cA.set j (c+1),aW:=S.aW.set j t' } (S.aW.set j t'):=R3.set (i:=2) (S':={ M with cA:=S.cA.set j (c+1),aW:=S.aW.set j t' }) (by decide) (by rintro (_ | _ | _ | _ | _ | _ | _ | _) a b<;>first | rfl | omega);have Sw:gc P S j c x.2 s g r={ M with cA:=S.cA.set j (c+1),aW:=S.aW.set j t' }:=by
  show j9 M j c t'=_;unfold j9;have e1:M.cA=S.cA:=mc.1;have e2:M.aW=S.aW:=mc.2;rw[e1,e2]
 refine⟨H3.set (n.c 2) (.lst (sL n (S.aW.set j t'))),((F1.set (nB (by decide))).set (y7 lj)).set (nB (by decide)),by rw[Sw];exact R4,?_⟩;have ro:=kj T (k+9) W C lj;rw[eV ex es,er] at ro;have ro':run pg (k+10) "_law_row" [P.v,.ref (n.c 0),.int j] H= .ok (br r) H:=ro;have C1:=R1.cells;have C2:=R2.cells;have C3:=R3.cells;have se:dS (sL n S.aW) (j:Int)=some (jZ n j s):=P3.cZ rfl (ID es);have ac:dS (S.cA.map PV.int) (j:Int)=some (.int c):=bE ec;have i4: ∀ g,aw P.v (.int 4) g= .ok (.tup (P.hs.map bG)) g:=λg=>uJ;have ih: ∀ g,aw (.tup (P.hs.map bG)) (.int j) g= .ok (bG x) g:=λg=>kC (bE ex);have i1: ∀ g,aw (bG x) (.int 1) g= .ok (bH x.2) g:=λg=>jX;have up:((s.row:Int)+1)=((t.row:Nat):Int):=by show _=(((after s v r).row:Nat):Int);rw[AM];omega
 have pc:=λh w=>lM (h:=h) (n:=n.c 1) (xs:=S.cA.map PV.int) (v:=w) (i:=(j:Int)) rfl (by rw[Ui];exact lc);have bc:(S.cA.map PV.int).set j (.int (c+1))=(S.cA.set j (c+1)).map PV.int:=bL PV.int S.cA j (c+1);have ps:=λh w=>lM (h:=h) (n:=n.c 2) (xs:=sL n S.aW) (v:=w) (i:=(j:Int)) rfl (by rw[CT];exact ls);have bs:(sL n S.aW).set j (.tup [.int t'.row,.ref (n.p j),.ref (n.q j)])=sL n (S.aW.set j t'):=Mp n j S.aW t';have c11:H1[n.c 1]?=some (.lst (S.cA.map PV.int)):=by have:=C1.e1;rw[mc.1] at this;exact this
 have c32:H3[n.c 2]?=some (.lst (sL n S.aW)):=by
  have:=C3.e2;have e2:M.aW=S.aW:=mc.2;show _=some (PO.lst (sL n S.aW));rw[<- e2];exact this
 have c10:=C1.e0;have c30:H3[n.c 0]?=some (.dct (eO n)):=C3.e0;have d3':run pg (k+10) "_law_rest" [bH x.2,.int t.row,.ref (n.p j),.ref (n.q j)] H2= .ok (.int t'.row) H3:=d3;have h2:H1.set (n.c 1) (.lst ((S.cA.set j (c+1)).map PV.int))=H2:=rfl;have A:mH (run pg (k+10)) [some P.v,some (.ref (n.c 0)),some (.int j),some g,none,none,none,none,none,none,none] H= .ok (.rt (dJ r v m)) (H3.set (n.c 2) (.lst (sL n (S.aW.set j t')))):=by
  show ae _ (ae _ (ae _ (ae BA (ae _ (ae _ _))))) _ _ _=_;refine(aT (e1:=[some P.v,some (.ref (n.c 0)),some (.int j),some g,some (.int s.row),some (.ref (n.p j)),some (.ref (n.q j)),none,none,none,none]) (h1:=H) ?_).trans ?_
  . simp? [C.e0,v2,C.e2,se,jZ]
  refine(aT (e1:=[some P.v,some (.ref (n.c 0)),some (.int j),some g,some (.int s.row),some (.ref (n.p j)),some (.ref (n.q j)),some (br r),none,none,none]) (h1:=H) ?_).trans ?_
  . simp? [ro']
  refine(aT (e1:=[some P.v,some (.ref (n.c 0)),some (.int j),some g,some (.int s.row),some (.ref (n.p j)),some (.ref (n.q j)),some (br r),some (jD j c),none,none]) (h1:=H) ?_).trans ?_
  . simp? [C.e0,v1,C.e1,ac,jD]
  refine(aT A4).trans ?_;refine(aT (e1:=[some P.v,some (.ref (n.c 0)),some (.int j),some g,some (.int s.row),some (.ref (n.p j)),some (.ref (n.q j)),some (br r),some (jD j c),some (dJ r v m),f10]) (h1:=H2) ?_).trans ?_
  . simp? [c10,v1,c11,jD,pc,bc,h2];rfl
  clear_value H3 t t' v m
  clear_value H2
  simp? [i4,ih,i1,up,d3',c30,v2,c32,ps,bs]
 rw[run_eq T.Aq rfl];show fin _ (mH (run pg (k+10)) [some P.v,some (.ref (n.c 0)),some (.int j),some g,none,none,none,none,none,none,none] H)=_;rw[A,jx];exact fX (by rw[UW,UW,UW];exact F1.len)
end
theorem sI.up{N:Nat}{v:PV}(h:sI N v):sI (N+1) v:=by
 rcases h with h | ⟨a,b,h,h1,h2,h3,h4⟩
 . exact .inl h
 . exact .inr ⟨a,b,h,h1,h2,h3,by omega⟩
theorem Px.up{P:Pg}{N:Nat}{x:Str × List Rw}{s:aF}(h:Px P N x s):Px P (N+1) x s:=⟨h.so,h.nd,by have:=h.le;omega,h.re,h.nm,h.sr⟩
theorem gQ.up{P:Pg}{N:Nat}{S:Wd}(W:gQ P N S):gQ P (N+1) S where
 lc:=W.lc
 ls:=W.ls
 l0:=W.l0
 l1:=W.l1
 l2:=W.l2
 l3:=W.l3
 ct c m:=by have:=W.ct c m;omega
 bx b m:=⟨(W.bx b m).1,(W.bx b m).2.up⟩
 lk l m:=⟨(W.lk l m).1,(W.lk l m).2.up⟩
 ln n m:=by have:=W.ln n m;exact⟨by omega,by omega,by omega,this.2.2.2⟩
 dr d m:=by have:=W.dr d m;omega
 se j x s e1 e2:=(W.se j x s e1 e2).up
theorem J7{P:Pg}(ok:P.Ok){N:Nat}{S:Wd}(W:gQ P N S){j:Nat}{x:Str × List Rw}{s:aF}{c:Int}{r:Rw}(ex:P.hs[j]?=some x)(es:S.aW[j]?=some s)(ec:S.cA[j]?=some c)(er:x.2[s.row]?=some r)(hw:cU P S j= .non){g:PV}(hg:fq r g):gQ P (N+1) (met P S j c s g r).1:=by
 have mr:=Uq er;have U:=W.up;have lj:=(Uh.mp ex).1;have hm:=ok.many;have hc:=W.ct c (Uq ec);have so:=W.se j x s ex es;obtain⟨l1,l2,l3⟩:=dR (ok.hd x (Uq ex));have hr:=l3 r mr;have rR: ∀ e:Sm,jC e->0<=e.val (fP s.ps)/\e.val (fP s.ps)<=999:=λe he=>Sm.nh (wa λq m=>(so.so.pk.mem q m).2) e he.1;have mk:sI (N+1) (jD j c):= .inr ⟨j,c,rfl,by omega,by omega,by omega,by omega⟩;cases r with
 | get y b=>exact U
 | put b e=>exact{ U with
   l0:=by rw[<- U.l0];exact UW
   bx:=λq m=>by
    rcases Vk m with m | rfl
    . exact U.bx q m
    . exact⟨rR e hr,mk⟩ }
 | take l =>
  obtain⟨z,ez,mz⟩:=bg (l:=S.ee) (ns:=P.nm 1) W.l1 (bK ok ex mr (k:=1) (t:=l) rfl)
  simp only[met,ez,UH]
  exact{ U with
   l1:=by rw[<- U.l1];exact UW
   lk:=λq m=>by
    rcases Vk m with m | rfl
    . exact U.lk q m
    . exact⟨λi e=>by cases e;omega,(U.lk z mz).2⟩ }
 | free l=>exact{ U with
   l1:=by rw[<- U.l1];exact UW
   lk:=λq m=>by
    rcases Vk m with m | rfl
    . exact U.lk q m
    . exact⟨λi e=>(nomatch e),mk⟩ }
 | send l e =>
  obtain⟨z,ez,mz⟩:=bg (l:=S.cY) (ns:=P.nm 2) W.l2 (bK ok ex mr (k:=2) (t:=l) rfl)
  have hz:=W.ln z mz
  simp only[met,ez,UH]
  exact{ U with
   l2:=by rw[<- U.l2];exact UW
   ln:=λq m=>by
    rcases Vk m with m | rfl
    . exact U.ln q m
    . refine⟨by show 0<=z.1+1/\z.1+1<=((N+1:Nat):Int);omega,by show 0<=z.2.1/\z.2.1<=((N+1:Nat):Int);omega,by show(z.2.2++[_]).length<=N+1;rw[Uu];have:=hz.2.2.1;simp;omega,λv mv=>?_⟩;rcases Vl.mp mv with mv | mv
      . exact hz.2.2.2 v mv
      . rw[Vc.mp mv];exact rR e hr }
 | fetch y l =>
  obtain⟨z,ez,mz⟩:=bg (l:=S.cY) (ns:=P.nm 2) W.l2 (bK ok ex mr (k:=2) (t:=l) rfl)
  have hz:=W.ln z mz
  simp only[met,ez,UH]
  exact{ U with
   l2:=by rw[<- U.l2];exact UW
   ln:=λq m=>by
    rcases Vk m with m | rfl
    . exact U.ln q m
    . refine⟨by show 0<=z.1/\z.1<=((N+1:Nat):Int);omega,by show 0<=z.2.1+1/\z.2.1+1<=((N+1:Nat):Int);omega,by show z.2.2.tail.length<=N+1;rw[List.length_tail];have:=hz.2.2.1;omega,λv mv=>hz.2.2.2 v (List.mem_of_mem_tail mv)⟩ }
 | say d e =>
  obtain⟨z,ez,mz⟩:=bg (l:=S.jY) (ns:=P.nm 3) W.l3 (bK ok ex mr (k:=3) (t:=d) rfl)
  have hz:=W.dr z mz
  simp only[met,ez,UH]
  exact{ U with
   l3:=by rw[<- U.l3];exact UW
   dr:=λq m=>by
    rcases Vk m with m | rfl
    . exact U.dr q m
    . omega }
 | _=>exact U
theorem HJ{P:Pg}(ok:P.Ok){N:Nat}{S:Wd}(W:gQ P N S){j:Nat}{x:Str × List Rw}{s:aF}{c:Int}{r:Rw}(ex:P.hs[j]?=some x)(es:S.aW[j]?=some s)(ec:S.cA[j]?=some c)(er:x.2[s.row]?=some r)(hw:cU P S j= .non){g:PV}(hg:fq r g):gQ P (N+1) (gc P S j c x.2 s g r):=by
 have mr:=Uq er;have M:=J7 ok W ex es ec er hw hg;have mc:(met P S j c s g r).1.cA=S.cA/\(met P S j c s g r).1.aW=S.aW:=by cases r<;>exact⟨rfl,rfl⟩
 have so:=W.se j x s ex es;have hc:=W.ct c (Uq ec);obtain⟨l1,l2,l3⟩:=dR (ok.hd x (Uq ex));have hv:=wH ok W (c:=c) ex es er hw hg;have ow:=(iZ so.re er).1;have ls:j < S.aW.length:=(Uh.mp es).1;unfold gc j9;have hh:(after s (met P S j c s g r).2.1 r).held.Nodup/\(after s (met P S j c s g r).2.1 r).held.length<=N+1/\(∀ l∈(after s (met P S j c s g r).2.1 r).held,l∈P.s1)/\(after s (met P S j c s g r).2.1 r).held.Pairwise iT:=by
  have le:=so.le;rcases rw_cls r with⟨y,hy⟩ | ⟨l,rfl⟩ | ⟨l,rfl⟩ | ⟨_,af⟩
  . rw[jq hy];exact⟨so.nd,by show s.held.length<=_;omega,so.nm,so.sr⟩
  . have nl:l ∉ s.held:=by simpa [own] using ow
    have ndl:(s.held++[l]).Nodup:=Xb.mpr ⟨so.nd,by simp,λa ha b hb e=>nl (by rw[<- Vc.mp hb,<- e];exact ha)⟩;refine⟨?_,?_,λy hy=>?_,mE ndl⟩
    . show(cv (s.held++[l])).Nodup;rw[(cm _).nodup_iff];exact ndl
    . show(cv (s.held++[l])).length<=_;rw[(cm _).length_eq,Uu];simp;omega
    . have hy':y∈cv (s.held++[l]):=hy;rw[(cm _).mem_iff,Vl] at hy';rcases hy' with hy' | hy'
      . exact so.nm y hy'
      . rw[Vc.mp hy'];exact bK ok ex mr (k:=1) (t:=l) rfl
  . refine⟨so.nd.sublist Xo,?_,λy hy=>so.nm y (VL.mp hy).1,so.sr.sublist Xo⟩;show(s.held.filter _).length<=_;exact UO (W7 _ _) (by omega)
  . rw[af];exact⟨so.nd,by show s.held.length<=_;omega,so.nm,so.sr⟩
 exact{ M with
  lc:=by rw[<- M.lc];exact UW
  ls:=by rw[<- M.ls];exact UW
  ct:=λq m=>by
   rcases Vk m with m | rfl
   . exact M.ct q m
   . omega
  se:=λi y t ey et=>by
   have et':(S.aW.set j (bh x.2 200 (after s (met P S j c s g r).2.1 r)))[i]?=some t:=by rw[<- mc.2];exact et
   by_cases z:j=i
   . subst z;rw[U1 ls] at et';rw[ex] at ey;cases et';cases ey;exact⟨pJ l3 200 _ (wy so.so er (l3 r mr) hv),by rw[cW];exact hh.1,by rw[cW];exact hh.2.1,iI 200 _,by rw[cW];exact hh.2.2.1,by rw[cW];exact hh.2.2.2⟩
   . rw[Vm z] at et';exact(W.se i y t ey et').up }
theorem yG{α :Type}{f: α ->PV}: ∀{l:List α},(∀ x∈l,wz (f x)=true)->kU (l.map f)=true
 | [],_=>rfl
 | x::r,h=>by rw[Ul,kU,h x Uv,yG λz m=>h z (Uz _ m)];rfl
theorem zq{α :Type}{f: α ->PV}{c:Nat}: ∀{l:List α},(∀ x∈l,Fi (f x)<=c)->IH (l.map f)<=(c+1)*l.length
 | [],_=>Vd _
 | x::r,h=>by
  have h1:=h x Uv;have h2:=zq (l:=r) λz m=>h z (Uz _ m);rw[Ul,IH,Um,Nat.mul_succ];omega
theorem zo{α :Type}{f: α ->PV}{c:Nat}: ∀{l:List α},(∀ x∈l,F8 (f x)<=c)->vq (l.map f)<=c
 | [],_=>Vd _
 | x::r,h=>by
  have h1:=h x Uv;have h2:=zo (l:=r) λz m=>h z (Uz _ m);rw[Ul,vq];omega
structure Sh(b d:Nat)(v:PV):Prop where
 ok:wz v=true
 bk:Fi v<=b
 dp:F8 v<=d
theorem iJ{α :Type}{f: α ->PV}{l:List α}{b d:Nat}(n:Nat)(hl:l.length<=n)(h: ∀ x∈l,Sh b d (f x)):Sh ((b+1)*n) (d+1) (.tup (l.map f)) :=
 ⟨by rw[wz];exact yG λx m=>(h x m).ok,by rw[Fi];exact UO (zq λx m=>(h x m).bk) (Nat.mul_le_mul_left _ hl),by rw[F8];have:=zo λx m=>(h x m).dp;omega⟩
theorem uo{x:Str}(h:tS x=true):Sh 20 0 (.str x):=⟨h,LL h,Uo _⟩
theorem cz{i:Int}(h0:0<=i)(h1:i<=1000000):Sh 0 0 (.int i):=⟨by rw[wz,decide_eq_true_eq];exact⟨h0,h1⟩,Uo _,Uo _⟩
theorem kr:Sh 0 0 .non:=⟨rfl,Uo _,Uo _⟩
theorem tE(d:Nat):Sh 0 (d+1) (.tup []):=⟨rfl,Uo _,Zp (Vd _)⟩
theorem eY(d:Nat){v:PV}{vs:List PV}{b c e:Nat}(h:Sh b e v)(t:Sh c (d+1) (.tup vs))(he:e<=d:=by decide):Sh (b+1+c) (d+1) (.tup (v::vs)):=by
 have t1:=t.ok;have t2:=t.bk;have t3:=t.dp;have h2:=h.bk;have h3:=h.dp;rw[wz] at t1;rw[Fi] at t2;rw[F8] at t3;exact⟨by rw[wz,kU,h.ok,t1];rfl,by rw[Fi,IH];omega,by rw[F8,vq];omega⟩
theorem Sh.up{v:PV}{b c d e:Nat}(h:Sh b d v)(hb:b<=c:=by decide)(hd:d<=e:=by decide):Sh c e v:=⟨h.ok,UO h.bk hb,UO h.dp hd⟩
theorem Sh.show{xs:List PV}{b d:Nat}(h:Sh b d (.tup xs))(hb:b<=1000000:=by decide)(hd:d<=61:=by decide): ∃ x:Str,∀ g,fw [.tup xs] g= .ok (.str x) g:=by
 have h1:=h.ok;have h2:=h.bk;have h3:=h.dp;rw[wz] at h1;rw[Fi] at h2;rw[F8] at h3;exact Fu h1 (by omega) (by omega)
theorem Jj{P:Pg}(ok:P.Ok){k:Nat}{t:Str}(m:t∈P.nm k):tS t=true:=by
 match k,m with
 | 0,m =>
  obtain⟨z,mz,rfl⟩:=UZ.mp (show t∈P.bs.map (·.1) from m)
  exact(ok.bx.2 z mz).1
 | 1,m=>exact(ok.nm.1.2 t m).1
 | 2,m=>exact(ok.nm.2.1.2 t m).1
 | _+3,m=>exact(ok.nm.2.2.2 t m).1
theorem vF{N:Nat}(N9:N<=100){v:PV}(h:sI N v):Sh 2 1 v:=by
 rcases h with rfl | ⟨a,b,rfl,h1,h2,h3,h4⟩
 . exact kr.up
 . exact eY 0 (cz h1 (by omega)) (eY 0 (cz h3 (by omega)) (tE 0))
theorem ym{P:Pg}(ok:P.Ok){N:Nat}(N9:N<=100){S:Wd}(W:gQ P N S):Sh 100000 5 (aS S):=by
 have hm:=ok.many;have a0:Sh ((0+1)*4) 1 (.tup (S.cA.map PV.int)):=iJ 4 (by rw[W.lc];omega) λc m=>by have:=W.ct c m;exact cz (by omega) (by omega)
 have a1:Sh ((2500+1)*4) 4 (.tup (S.aW.map az)):=iJ 4 (by rw[W.ls];omega) λs m=>by
  obtain⟨j,hj,ej⟩:=List.getElem_of_mem m;have es:S.aW[j]?=some s:=by rw[<- ej];exact Ur hj
  have hj':j < P.hs.length:=by rw[<- W.ls];exact hj
  have so:=W.se j _ s (Ur hj') es;obtain⟨l1,l2,l3⟩:=dR (ok.hd _ (VC hj'));have hd:=(ok.hd _ (VC hj')).1;have pl:=so.so.pk.len;have le:=so.so.le;have p1:Sh ((22+1)*6) 2 (.tup (s.ps.map cO)):=iJ 6 (by omega) λz mz=>by
   have:=so.so.pk.mem z mz;show Sh 22 1 (.tup [.str z.1,.int z.2]);exact eY 0 (uo (l2 _ this.1)) (eY 0 (cz (by omega) (by omega)) (tE 0))
  have p2:Sh ((20+1)*100) 1 (.tup (s.held.map PV.str)):=iJ 100 (by have:=so.le;omega) λz mz=>uo (Jj ok (k:=1) (so.nm z mz));exact(eY 2 (cz (by omega) (by omega)) (eY 2 p1 (eY 2 p2 (tE 2)))).up
 have a2:Sh ((4+1)*20) 3 (.tup (S.ig.map gO)):=iJ 20 (by rw[W.l0];exact ok.bx.1) λz m=>by
  have:=W.bx z m;exact eY 1 (cz (by omega) (by omega)) (eY 1 (vF N9 this.2) (tE 1))
 have a3:Sh ((4+1)*20) 3 (.tup (S.ee.map fz)):=iJ 20 (by rw[W.l1];exact ok.nm.1.1) λz m=>by
  have:=W.lk z m;refine eY 1 (b:=0) (e:=0) ?_ (eY 1 (vF N9 this.2) (tE 1));cases e:z.1 with
  | none=>exact kr
  | some i=>have:=this.1 i e;exact cz this.1 (by omega)
 have a4:Sh ((103+1)*20) 3 (.tup (S.cY.map fu)):=iJ 20 (by rw[W.l2];exact ok.nm.2.1.1) λz m=>by
  have:=W.ln z m;have q:Sh ((0+1)*100) 1 (.tup (z.2.2.map PV.int)):=iJ 100 (by omega) λv mv=>by have:=this.2.2.2 v mv;exact cz this.1 (by omega)
  exact eY 1 (cz (by omega) (by omega)) (eY 1 (cz (by omega) (by omega)) (eY 1 q (tE 1)))
 have a5:Sh ((0+1)*20) 1 (.tup (S.jY.map PV.int)):=iJ 20 (by rw[W.l3];exact ok.nm.2.2.1) λz m=>by have:=W.dr z m;exact cz (by omega) (by omega)
 exact(eY 4 a0 (eY 4 a1 (eY 4 a2 (eY 4 a3 (eY 4 a4 (eY 4 a5 (tE 4))))))).up
theorem Nf{P:Pg}(ok:P.Ok){N:Nat}(N9:N<=100){S:Wd}(W:gQ P N S){j:Nat}{x:Str × List Rw}{s:aF}{c:Int}{r:Rw}(ex:P.hs[j]?=some x)(es:S.aW[j]?=some s)(er:x.2[s.row]?=some r){g:PV}(hg:fq r g):Sh 0 0 g/\Sh 0 0 (met P S j c s g r).2.1/\Sh 2 1 (met P S j c s g r).2.2:=by
 have mr:=Uq er;have so:=W.se j x s ex es;obtain⟨l1,l2,l3⟩:=dR (ok.hd x (Uq ex));have hr:=l3 r mr;have rR: ∀ e:Sm,jC e->Sh 0 0 (.int (e.val (fP s.ps))):=λe he=>by
  have:=Sm.nh (wa λq m=>(so.so.pk.mem q m).2) e he.1;exact cz this.1 (by omega)
 have gs:Sh 0 0 g:=by
  cases e:dZ r with
  | true=>obtain⟨i,rfl,h0,h9,_⟩:=hg.1 e;exact cz h0 (by omega)
  | false=>rw[hg.2 e];exact kr
 refine⟨gs,?_⟩;cases r with
 | get y b =>
  obtain⟨z,ez,mz⟩:=bg (l:=S.ig) (ns:=P.nm 0) (by rw[W.l0];exact(Ui ..).symm) (bK ok ex mr (k:=0) (t:=b) rfl)
  have:=W.bx z mz
  simp only[met,ez,UH]
  exact⟨cz this.1.1 (by omega),vF N9 this.2⟩
 | put b e =>
  obtain⟨z,ez,mz⟩:=bg (l:=S.ig) (ns:=P.nm 0) (by rw[W.l0];exact(Ui ..).symm) (bK ok ex mr (k:=0) (t:=b) rfl)
  simp only[met,ez,UH]
  exact⟨rR e hr,vF N9 (W.bx z mz).2⟩
 | take l =>
  obtain⟨z,ez,mz⟩:=bg (l:=S.ee) (ns:=P.nm 1) W.l1 (bK ok ex mr (k:=1) (t:=l) rfl)
  simp only[met,ez,UH]
  exact⟨kr,vF N9 (W.lk z mz).2⟩
 | free l=>exact⟨kr,kr.up⟩
 | send l e =>
  obtain⟨z,ez,mz⟩:=bg (l:=S.cY) (ns:=P.nm 2) W.l2 (bK ok ex mr (k:=2) (t:=l) rfl)
  have:=W.ln z mz
  simp only[met,ez,UH]
  exact⟨rR e hr,(cz this.1.1 (by omega)).up⟩
 | fetch y l =>
  obtain⟨z,ez,mz⟩:=bg (l:=S.cY) (ns:=P.nm 2) W.l2 (bK ok ex mr (k:=2) (t:=l) rfl)
  have:=W.ln z mz
  simp only[met,ez,UH]
  refine⟨?_,(cz this.2.1.1 (by omega)).up⟩
  cases q:z.2.2 with
  | nil=>exact cz (by decide) (by decide)
  | cons i ls=>have:=this.2.2.2 i (by rw[q];exact Uv);exact cz this.1 (by show i<=_;omega)
 | say d e =>
  obtain⟨z,ez,mz⟩:=bg (l:=S.jY) (ns:=P.nm 3) W.l3 (bK ok ex mr (k:=3) (t:=d) rfl)
  have:=W.dr z mz
  simp only[met,ez,UH]
  exact⟨rR e hr,(cz this.1 (by omega)).up⟩
 | _=>exact⟨gs,kr.up⟩
theorem Om{P:Pg}(ok:P.Ok){j:Nat}{x:Str × List Rw}{r:Rw}(ex:P.hs[j]?=some x)(m:r∈x.2):tS r.w=true/\tS r.tg=true:=by
 have e0:tS "" =true:=by decide +kernel
 have nn: ∀ k t,r.nm=some (k,t)->tS t=true:=λk t q=>Jj ok (OI ok ex m q);cases r<;>first | exact⟨by simp only[Rw.w];decide +kernel,nn _ _ rfl⟩ | exact⟨by simp only[Rw.w];decide +kernel,e0⟩
structure Hl(P:Pg)(S:Wd)(j:Nat)(g l:PV)(S1:Wd):Prop where
 at_: ∃ x s c r,P.hs[j]?=some x/\S.aW[j]?=some s/\S.cA[j]?=some c/\x.2[s.row]?=some r/\cU P S j= .non/\fq r g/\S1=gc P S j c x.2 s g r/\l=dJ r (met P S j c s g r).2.1 (met P S j c s g r).2.2
inductive Wk(P:Pg):Wd->List (Nat × PV × PV)->Wd->Prop
 | nil (S:Wd):Wk P S [] S
 | cons {S S1 S2:Wd} {j:Nat} {g l:PV} {r:List (Nat × PV × PV)} (h:Hl P S j g l S1) (t:Wk P S1 r S2):Wk P S ((j,g,l)::r) S2
theorem Wk.split{P:Pg}: ∀{a b:List (Nat × PV × PV)}{S S2:Wd},Wk P S (a++b) S2-> ∃ S1,Wk P S a S1/\Wk P S1 b S2
 | [],b,S,S2,h=>⟨S,.nil S,h⟩
 | z::a,b,S,S2,h=>by
  cases h with
  | cons h t=>obtain⟨S1,h1,h2⟩:=Wk.split t;exact⟨S1,.cons h h1,h2⟩
theorem Hl.ok{P:Pg}(ok:P.Ok){N:Nat}{S S1:Wd}{j:Nat}{g l:PV}(W:gQ P N S)(h:Hl P S j g l S1):gQ P (N+1) S1:=by
 obtain⟨x,s,c,r,ex,es,ec,er,hw,hg,rfl,rfl⟩:=h.at_;exact HJ ok W ex es ec er hw hg
theorem Wk.ok{P:Pg}(ok:P.Ok){S S2:Wd}{a:List (Nat × PV × PV)}(h:Wk P S a S2): ∀{N:Nat},gQ P N S->gQ P (N+a.length) S2:=by
 induction h with
 | nil=>exact λW=>W
 | cons h _ ih=>intro N W;have:=ih (h.ok ok W);rw[Um,XR _ 1,<- Yb];exact this
theorem Hl.sh{P:Pg}(ok:P.Ok){N:Nat}(N9:N<=100){S S1:Wd}{j:Nat}{g l:PV}(W:gQ P N S)(h:Hl P S j g l S1):j < P.hs.length/\Sh 0 0 g/\Sh 60 2 l:=by
 obtain⟨x,s,c,r,ex,es,ec,er,hw,hg,rfl,rfl⟩:=h.at_;obtain⟨m1,m2,m3⟩:=Nf (c:=c) ok N9 W ex es er hg;obtain⟨t1,t2⟩:=Om ok ex (Uq er);exact⟨(Uh.mp ex).1,m1,(eY 1 (uo t1) (eY 1 (uo t2) (eY 1 m2 (eY 1 m3 (tE 1))))).up⟩
mutual
theorem wo: ∀ v:PV,wz v=true->v.flat=true
 | .tup xs,h=>by rw[wz] at h;rw[PV.flat];exact rD xs h
 | .non,_=>rfl
 | .int _,_=>rfl
 | .str _,_=>rfl
theorem rD: ∀ xs:List PV,kU xs=true->PV.bF xs=true
 | [],_=>rfl
 | x::r,h=>by
  rw[kU,UD] at h;rw[PV.bF,wo x h.1,rD r h.2];rfl
end
noncomputable def dQ(x:Str × List Rw):aF:=bh x.2 200 ⟨0,[],[]⟩
noncomputable def N0(bs:List (Str × Int))(s1 s2 s3:List Str)(hs:List (Str × List Rw)):PV:= .tup [.tup (hs.map λ_=>PV.int 0),.tup (hs.map λx=>az (dQ x)),.tup (bs.map λb=>PV.tup [.int b.2,.non]),.tup (s1.map λ_=>PV.tup [.non,.non]),.tup (s2.map λ_=>PV.tup [.int 0,.int 0,.tup []]),.tup (s3.map λ_=>PV.int 0)]
theorem sk{α :Type}(hs:List α)(f: α ->PV)(d:PV):(Vn hs.length).filterMap (λi=>some ((hs[i]?.map f).getD d))=hs.map f:=by
 rw[XX];refine List.ext_getElem (by simp) λi h1 h2=>?_;simp at h1 h2 ⊢;rw[Ur (by omega)];rfl
theorem gy{α :Type}(f: α ->PV)(hf: ∀ x,(f x).flat=true): ∀ l:List α,PV.bF (l.map f)=true
 | []=>rfl
 | x::r=>by rw[Ul,PV.bF,hf,gy f hf r];rfl
theorem El(bs:List (Str × Int))(s1 s2 s3:List Str)(hs:List (Str × List Rw)):(N0 bs s1 s2 s3 hs).flat=true:=by
 unfold N0;simp only[PV.flat,PV.bF,aaI,UD];exact⟨gy _ (λ_=>rfl) _,gy _ (λx=>kP _) _,gy _ (λ_=>rfl) _,gy _ (λ_=>rfl) _,gy _ (λ_=>rfl) _,gy _ (λ_=>rfl) _⟩
noncomputable def iH(P:Pg):Wd:=⟨P.hs.map λ_=>0,P.hs.map dQ,P.bs.map λz=>(z.2,.non),P.s1.map λ_=>(none,.non),P.s2.map λ_=>(0,0,[]),P.s3.map λ_=>0⟩
theorem AR(P:Pg):aS (iH P)=N0 P.bs P.s1 P.s2 P.s3 P.hs:=by
 unfold aS iH N0;simp only[Ve];rfl
theorem yw{P:Pg}(ok:P.Ok):gQ P 0 (iH P) where
 lc:=Ui ..
 ls:=Ui ..
 l0:=Ui ..
 l1:=Ui ..
 l2:=Ui ..
 l3:=Ui ..
 ct c m:=by obtain⟨_,_,rfl⟩:=UZ.mp m;decide
 bx b m:=by obtain⟨z,mz,rfl⟩:=UZ.mp m;exact⟨(ok.bx.2 z mz).2,.inl rfl⟩
 lk l m:=by obtain⟨_,_,rfl⟩:=UZ.mp m;exact⟨λi e=>(nomatch e),.inl rfl⟩
 ln n m:=by obtain⟨_,_,rfl⟩:=UZ.mp m;exact⟨by decide,by decide,by decide,λv mv=>(nomatch mv)⟩
 dr d m:=by obtain⟨_,_,rfl⟩:=UZ.mp m;decide
 se j x s e1 e2:=by
  have e2':(P.hs.map dQ)[j]?=some s:=e2;rw[UA,e1] at e2';cases e2';obtain⟨l1,l2,l3⟩:=dR (ok.hd x (Uq e1));have h0:(dQ x).held=[]:=cW 200 ⟨0,[],[]⟩;exact⟨pJ l3 200 _ ⟨.nil,Vd _⟩,by rw[h0];exact .nil,by rw[h0];exact Uo _,iI 200 _,by rw[h0];exact λl m=>(nomatch m),by rw[h0];exact .nil⟩
section
variable{pg:Tb}(T:cb pg)
include T
theorem je(k:Nat)(h:PH){P:Pg}(ok:P.Ok):run pg (k+12) "first_stand" [P.v] h= .ok (aS (iH P)) h:=by
 rw[AR];obtain⟨bs,s1,s2,s3,hs⟩:=P;obtain⟨p,pa⟩: ∃ p,p=Pg.v ⟨bs,s1,s2,s3,hs⟩:=⟨_,rfl⟩
 rw[<- pa];show _=RV.ok (N0 bs s1 s2 s3 hs) h;have hm:1<=hs.length/\hs.length<=4:=ok.many;have ho:run pg (k+11) "hands_of" [p] h= .ok (.ref h.length) (h++[.lst (aE 0 hs.length)]):=by
  rw[run_eq T.yc rfl,pa];unfold Pg.v;have tn:YB ((hs.length:Nat):Int)=hs.length:=Vr _;simp? [iE,pX,QQ,K5,Ui,tn];exact cg rfl
 have lc: ∀(H:PH)(e:ME)(f:Nat->PV),H[h.length]?=some (.lst (aE 0 hs.length))->(∀ i < hs.length,e (run pg (k+11)) [some p,some (.ref h.length),some (.int (0+(i:Int)))] H= .ok (f i) H)->fH ⟨some h.length,aE 0 hs.length⟩ (aQ 1 (gN 2) aP e (run pg (k+11)) [some p,some (.ref h.length)]) (aE 0 hs.length) [] H= .ok ((Vn hs.length).filterMap λi=>some (f i)) H:=λH e f hH he=>by
  refine(fE (c7 hH) (Vn hs.length) [] (f:=λi=>some (f i)) (g:=λi:Nat=>PV.int (0+(i:Int))) (λi m=>?_) (by simp;omega)).trans (by rw[UR]);have:=he i (Wm.mp m);simp? [this]
 have lt: ∀{α :Type}(l:List α)(g f: α ->PV)(e:ME)(H:PH),l.length<=1000->(∀ x∈l,e (run pg (k+11)) [some p,some (.ref h.length),some (g x)] H= .ok (f x) H)->fH ⟨none,l.map g⟩ (aQ 1 (gN 2) aP e (run pg (k+11)) [some p,some (.ref h.length)]) (l.map g) [] H= .ok (l.map f) H:=λl g f e H hl he=>by
  refine(fE rfl l [] (f:=λx=>some (f x)) (g:=g) (λx m=>?_) (by simp;omega)).trans (by rw[UR,XX]);have:=he x m;simp? [this]
 let A:List PV:=hs.map λ_=>PV.int 0
 let B:List PV:=hs.map λx=>az (dQ x)
 have n0: ∀ Y:PH,(h++ .lst (aE 0 hs.length)::Y)[h.length]?=some (.lst (aE 0 hs.length)):=λY=>bM;have c1: ∀ Y:PH,fH ⟨some h.length,aE 0 hs.length⟩ (aQ 1 (gN 2) aP (eI 0) (run pg (k+11)) [some p,some (.ref h.length)]) (aE 0 hs.length) [] (h++ .lst (aE 0 hs.length)::Y)= .ok A (h++ .lst (aE 0 hs.length)::Y):=λY=>by
  rw[lc _ (eI 0) (λi=>((hs[i]?.map λ_=>PV.int 0).getD (.int 0))) (n0 Y) (λi hi=>by rw[Jf,Ur hi];rfl),sk]
 have c2: ∀ Y:PH,fH ⟨some h.length,aE 0 hs.length⟩ (aQ 1 (gN 2) aP (ag "first_seat" (a2 (aa 0) (aa 2))) (run pg (k+11)) [some p,some (.ref h.length)]) (aE 0 hs.length) [] (h++ .lst (aE 0 hs.length)::Y)= .ok B (h++ .lst (aE 0 hs.length)::Y):=λY=>by
  rw[lc _ (ag "first_seat" (a2 (aa 0) (aa 2))) (λi=>((hs[i]?.map λx=>az (dQ x)).getD .non)) (n0 Y) (λi hi=>?_),sk];have e:=Ur hi;obtain⟨_,L,l1,_,l3⟩:=ok.hd _ (VC hi);have fs:run pg (k+11) "first_seat" [p,.int i] (h++ .lst (aE 0 hs.length)::Y)=_:=qO T k _ (L:=L) (by omega) (by rw[pa];exact Pg.hand _ e) (λr m=>(l3 r m).1);rw[e];have iz:(0:Int)+(i:Int)=(i:Int):=XU _;simp? [iz,fs];rfl
 have b20:bs.length<=20:=ok.bx.1;have n1:s1.length<=20:=ok.nm.1.1;have n2:s2.length<=20:=ok.nm.2.1.1;have n3:s3.length<=20:=ok.nm.2.2.1;have c3: ∀ H:PH,fH ⟨none,bs.map cO⟩ (aQ 1 (gN 2) aP (au (a2 (eX 2 1) (eC .non))) (run pg (k+11)) [some p,some (.ref h.length)]) (bs.map cO) [] H= .ok (bs.map λb=>PV.tup [.int b.2,.non]) H:=λH=>lt bs cO _ _ H (by omega) λx _=>by simp? [cO]
 have c4: ∀ H:PH,fH ⟨none,s1.map PV.str⟩ (aQ 1 (gN 2) aP (au (a2 (eC .non) (eC .non))) (run pg (k+11)) [some p,some (.ref h.length)]) (s1.map PV.str) [] H= .ok (s1.map λ_=>PV.tup [.non,.non]) H:=λH=>lt s1 PV.str _ _ H (by omega) λx _=>by simp? [UU]
 have c5: ∀ H:PH,fH ⟨none,s2.map PV.str⟩ (aQ 1 (gN 2) aP (au (a3 (eI 0) (eI 0) (au ah))) (run pg (k+11)) [some p,some (.ref h.length)]) (s2.map PV.str) [] H= .ok (s2.map λ_=>PV.tup [.int 0,.int 0,.tup []]) H:=λH=>lt s2 PV.str _ _ H (by omega) λx _=>by simp? [UU]
 have c6: ∀ H:PH,fH ⟨none,s3.map PV.str⟩ (aQ 1 (gN 2) aP (eI 0) (run pg (k+11)) [some p,some (.ref h.length)]) (s3.map PV.str) [] H= .ok (s3.map λ_=>PV.int 0) H:=λH=>lt s3 PV.str _ _ H (by omega) λx _=>rfl;have i0: ∀ H,aw p (.int 0) H= .ok (.tup (bs.map cO)) H:=λH=>by rw[pa];exact sZ
 have i1: ∀ H,aw p (.int 1) H= .ok (.tup (s1.map PV.str)) H:=λH=>by rw[pa];exact jX
 have i2: ∀ H,aw p (.int 2) H= .ok (.tup (s2.map PV.str)) H:=λH=>by rw[pa];exact uR
 have i3: ∀ H,aw p (.int 3) H= .ok (.tup (s3.map PV.str)) H:=λH=>by rw[pa];exact Bm
 rw[run_eq T.qF rfl];simp? [eQ,kc,ho,c1,c2,c3,c4,c5,c6,i0,i1,i2,i3];exact cj (v:=N0 bs s1 s2 s3 hs) (El ..)
end
structure FI(dn:List (Str × List Rw))(R:PH):Prop where
 len:R.length=4+3*dn.length
 at_: ∀(j:Nat)(x:Str × List Rw),dn[j]?=some x-> ∃ D:Pk,R[4+3*j]?=some (.dct (cQ D))/\R[6+3*j]?=some (.lst [])/\oI (F0 x) D/\ ∀ y,fP D y=fP (dQ x).ps y
theorem FI.more{dn:List (Str × List Rw)}{R:PH}(h:FI dn R){x:Str × List Rw}{D:Pk}(hD:oI (F0 x) D)(hf: ∀ y,fP D y=fP (dQ x).ps y):FI (dn++[x]) (R++[.dct (cQ D),.lst [],.lst []]):=by
 have l:=h.len;refine⟨by simp only[Uu,Um,UL];omega,λj y e=>?_⟩;by_cases z:j < dn.length
 . rw[U4 z] at e;obtain⟨D0,h1,h2,h3⟩:=h.at_ j y e;exact⟨D0,(aq (aA h1)).trans h1,(aq (aA h2)).trans h2,h3⟩
 . rw[UM (by omega)] at e;have j0:j=dn.length:=by
    have:=(Uh.mp e).1;simp at this;omega
   subst j0;rw[Nat.sub_self] at e;cases e;refine⟨D,?_,?_,hD,hf⟩
   . rw[show 4+3*dn.length=R.length by omega];exact bM
   . rw[show 6+3*dn.length=R.length+2 by omega,bo];rfl
theorem NG(n:Lo)(ss:List aF)(s:aF):sL n (ss++[s])=sL n ss++[jZ n ss.length s]:=by
 unfold sL;rw[List.mapIdx_append];simp
noncomputable def fB:MS:=(ae (ak tP (gN 3)) (ae (ak (ag "_law_rest" (ab (eX 2 1) (a3 (eI 0) (aa 3) (bN ah)))) (gN 4)) (ae (cX (eM bu bY (ai aw (aa 1) (eS "counts")) (a1 (eI 0)))) (cX (eM bu bY (ai aw (aa 1) (eS "seats")) (ab (au (a3 (aa 4) (aa 3) (bN ah))) ah))))))
section
variable{pg:Tb}(T:cb pg)
include T
theorem yh(k:Nat)(h:PH)(xs0:List PV)(e0:Option PV){s0 s1 s2 s3:List Str}: ∀(hs dn:List (Str × List Rw))(R:PH)(e2 e3 e4:Option PV),dn.length+hs.length<=1000->(∀ x∈hs,kz s0 s1 s2 s3 x)->FI dn R ->
  ∃(X:PH)(f2 f3 f4:Option PV),FI (dn++hs) (R++X) /\
   bJ ⟨none,xs0⟩ (bA (gN 2) fB (run pg (k+10))) (hs.map bG) [e0,some (.ref h.length),e2,e3,e4] (h++ .dct (eO (lo h.length)):: .lst (dn.map λ_=>PV.int 0):: .lst (sL (lo h.length) (dn.map dQ))::R)= .ok (.nx [e0,some (.ref h.length),f2,f3,f4]) (h++ .dct (eO (lo h.length)):: .lst ((dn++hs).map λ_=>PV.int 0):: .lst (sL (lo h.length) ((dn++hs).map dQ))::(R++X)):=by
 have vc:bT (eO (lo h.length)) (.inr "counts")=some (.ref (h.length+1)):=(cK _).1;have vs:bT (eO (lo h.length)) (.inr "seats")=some (.ref (h.length+2)):=(cK _).2.1;intro hs
 induction hs with
 | nil=>intro dn R e2 e3 e4 _ _ f;exact⟨[],e2,e3,e4,by simpa using f,by simp only[UU,U3];exact fZ⟩
 | cons x hs ih =>
  intro dn R e2 e3 e4 hc hH f
  rw[Um] at hc
  have lR:=f.len
  obtain⟨l1,l2,l3⟩:=dR (hH x Uv)
  let cA:List PV:=dn.map λ_=>PV.int 0
  let aW:List PV:=sL (lo h.length) (dn.map dQ)
  let W:PH:=h++ .dct (eO (lo h.length)):: .lst cA:: .lst aW::R
  have lW:W.length=h.length+(R.length+1+1+1):=by simp[W]
  obtain⟨D,a1,a2,a3⟩:=yY T k (W++[.dct [],.lst []]) (d:=W.length) (l:=W.length+1) (hl:=[]) (L:=F0 x) (rs:=x.2) (t:=⟨0,[],[]⟩) (D:=[]) (by omega) (by omega) l3 bM (by rw[bo];rfl) (λy=>Iff.rfl) ⟨.nil,Vd _⟩ ⟨.nil,λq m=>nomatch m⟩ (λ_=>rfl)
  rw[gW] at a3
  let v:PV:= .tup [.int (dQ x).row,.ref (h.length+(R.length+1+1+1)),.ref (h.length+(R.length+(0+1+1)+1+1+1))]
  obtain⟨X,f2,f3,f4,i1,i2⟩:=ih (dn++[x]) (R++[.dct (cQ D),.lst [],.lst []]) (some (bG x)) (some (.ref (h.length+(R.length+1+1+1)))) (some (.int (dQ x).row)) (by simp only[Uu,Um,UL];omega) (λz m=>hH z (Uz _ m)) (f.more a1 a2)
  refine⟨[.dct (cQ D),.lst [],.lst []]++X,f2,f3,f4,?_,?_⟩
  . rw[<- UT];rw[UT dn] at i1;exact i1
  have hz1:cA.length < 16777216:=by simp only[cA,Ui];omega
  have hz2:aW.length < 16777216:=by simp only[aW];rw[CT,Ui];omega
  have h1: ∀ H,aw (bG x) (.int 1) H= .ok (bH x.2) H:=λH=>jX
  have st:bA (gN 2) fB (run pg (k+10)) (bG x) [e0,some (.ref h.length),e2,e3,e4] W= .ok (.nx [e0,some (.ref h.length),some (bG x),some (.ref (h.length+(R.length+1+1+1))),some (.int (dQ x).row)]) (h++ .dct (eO (lo h.length)):: .lst (cA++[.int 0]):: .lst (aW++[v])::(R++[.dct (cQ D),.lst [],.lst []])):=by
   have a3':run pg (k+10) "_law_rest" [bH x.2,.int 0,.ref (h.length+(R.length+1+1+1)),.ref (h.length+(R.length+(0+1)+1+1+1))] (h++ .dct (eO (lo h.length)):: .lst cA:: .lst aW::(R++[.dct [],.lst []]))= .ok (.int (dQ x).row) (h++ .dct (eO (lo h.length)):: .lst cA:: .lst aW::(R++[.dct (cQ D),.lst []])):=by
    rw[lW] at a3;simp only[W,UT,Vq,aaV] at a3;exact a3
   clear_value cA aW
   simp? [fB,W,v,h1,a3',vc,vs,pY hz1,pY hz2]
  have ec:(dn++[x]).map (λ_=>PV.int 0)=cA++[.int 0]:=by rw[Vh];rfl
  have es:sL (lo h.length) ((dn++[x]).map dQ)=aW++[v]:=by
   rw[Vh,Ul,UU,NG,Ui];show aW++[_]=aW++[v];simp only[jZ,lo];rw[show h.length+7+3*dn.length=h.length+(R.length+1+1+1) by omega,show h.length+9+3*dn.length=h.length+(R.length+(0+1+1)+1+1+1) by omega]
  rw[ec,es] at i2
  rw[Ul,dh]
  show(bA (gN 2) fB (run pg (k+10)) (bG x) [e0,some (.ref h.length),e2,e3,e4] W).bind _=_
  rw[st,cB,bS,i2]
  simp
end
noncomputable def mh(n:Nat):List (Key × PV):=[(.inr "counts",.ref (n+1)),(.inr "seats",.ref (n+2)),(.inr "doors",.ref (n+3))]
theorem L9(n:Nat):bW [] (mh n)=mh n/\cM (mh n) (.inr "boxes") (.ref (n+4))=mh n++[(.inr "boxes",.ref (n+4))]/\cM (mh n++[(.inr "boxes",.ref (n+4))]) (.inr "locks") (.ref (n+5))=mh n++[(.inr "boxes",.ref (n+4)),(.inr "locks",.ref (n+5))]/\cM (mh n++[(.inr "boxes",.ref (n+4)),(.inr "locks",.ref (n+5))]) (.inr "lanes") (.ref (n+6))=eO (lo n):=by
 refine⟨?_,?_,?_,?_⟩<;>simp[mh,eO,lo,bW,cM,aO]
section
variable{pg:Tb}(T:cb pg)
include T
theorem l7(k:Nat)(h:PH){P:Pg}(ok:P.Ok) :
  ∃ X:PH,X.length=7+3*P.hs.length/\Rep (h++X) (lo h.length) P (iH P) (iH P).aW/\run pg (k+11) "_law_first" [P.v] h= .ok (.ref h.length) (h++X):=by
 have b20:=ok.bx.1;have n1:=ok.nm.1.1;have n2:=ok.nm.2.1.1;have n3:=ok.nm.2.2.1;have hm:=ok.many
 let n:=h.length
 let A3:PO:= .lst (P.s3.map λ_=>PV.int 0)
 let A0:PO:= .lst (P.bs.map λb=>PV.tup [.int b.2,.non])
 let A1:PO:= .lst (P.s1.map λ_=>PV.tup [.non,.non])
 let A2:PO:= .lst (P.s2.map λ_=>PV.tup [.int 0,.int 0,.tup []])
 obtain⟨X,f2,f3,f4,i1,i2⟩:=yh T k h (P.hs.map bG) (some P.v) P.hs [] [A3,A0,A1,A2] none none none (by simp;omega) ok.hd ⟨rfl,λj x e=>nomatch e⟩;rw[UR] at i1;have lX:=i1.len
 let Y:PH:= .dct (eO (lo n)):: .lst (P.hs.map λ_=>PV.int 0):: .lst (sL (lo n) (P.hs.map dQ))::([A3,A0,A1,A2]++X)
 refine⟨Y,by simp only[Y,Um];omega,⟨QH _ _,λi hi=>?_,λj x s ex es=>?_⟩,?_⟩
 . show(h++Y)[h.length+i]?=_;rw[bo]
   match i,hi with
   | 0,_=>rfl
   | 1,_=>show some (PO.lst (P.hs.map λ_=>PV.int 0))=some (.lst ((P.hs.map λ_=>(0:Int)).map PV.int));rw[Ve];rfl
   | 2,_=>rfl
   | 3,_=>show some A3=some (.lst ((P.s3.map λ_=>(0:Int)).map PV.int));rw[Ve];rfl
   | 4,_=>show some A0=some (.lst ((P.bs.map λz=>(z.2,PV.non)).map gO));rw[Ve];rfl
   | 5,_=>show some A1=some (.lst ((P.s1.map λ_=>((none:Option Int),PV.non)).map fz));rw[Ve];rfl
   | 6,_=>show some A2=some (.lst ((P.s2.map λ_=>((0:Int),(0:Int),([]:List Int))).map fu));rw[Ve];rfl
 . have es':(P.hs.map dQ)[j]?=some s:=es;rw[UA,ex] at es';cases es';obtain⟨D,h1,h2,h3,h4⟩:=i1.at_ j x ex;have h0:(dQ x).held=[]:=cW 200 ⟨0,[],[]⟩;refine⟨D,[],?_,?_,h3,h4,.nil,by rw[h0];exact λy=>Iff.rfl⟩
   . show(h++Y)[h.length+7+3*j]?=_;rw[show h.length+7+3*j=h.length+(4+3*j+1+1+1) by omega,bo];exact h1
   . show(h++Y)[h.length+9+3*j]?=_;rw[show h.length+9+3*j=h.length+(6+3*j+1+1+1) by omega,bo];exact h2
 obtain⟨p0,p1,p2,p3⟩:=L9 n;have c3: ∀(E:ao)(H:PH),fH ⟨none,P.s3.map PV.str⟩ (aQ 1 (gN 5) aP (eI 0) (run pg (k+10)) E) (P.s3.map PV.str) [] H= .ok (P.s3.map λ_=>PV.int 0) H:=λE H=>Mo (by omega) λx _=>rfl;have c0: ∀(e1:Option PV)(H:PH),fH ⟨none,P.bs.map cO⟩ (aQ 1 (gN 5) aP (au (a2 (eX 5 1) (eC .non))) (run pg (k+10)) [some P.v,e1,none,none,none]) (P.bs.map cO) [] H= .ok (P.bs.map λb=>PV.tup [.int b.2,.non]) H:=λe1 H=>Mo (by omega) λx _=>by simp? [cO]
 have c1: ∀(e1:Option PV)(H:PH),fH ⟨none,P.s1.map PV.str⟩ (aQ 1 (gN 5) aP (au (a2 (eC .non) (eC .non))) (run pg (k+10)) [some P.v,e1,none,none,none]) (P.s1.map PV.str) [] H= .ok (P.s1.map λ_=>PV.tup [.non,.non]) H:=λe1 H=>Mo (by omega) λx _=>by simp? [UU]
 have c2: ∀(e1:Option PV)(H:PH),fH ⟨none,P.s2.map PV.str⟩ (aQ 1 (gN 5) aP (au (a3 (eI 0) (eI 0) (au ah))) (run pg (k+10)) [some P.v,e1,none,none,none]) (P.s2.map PV.str) [] H= .ok (P.s2.map λ_=>PV.tup [.int 0,.int 0,.tup []]) H:=λe1 H=>Mo (by omega) λx _=>by simp? [UU]
 have i0: ∀ H,aw P.v (.int 0) H= .ok (.tup (P.bs.map cO)) H:=λH=>sZ;have j1: ∀ H,aw P.v (.int 1) H= .ok (.tup (P.s1.map PV.str)) H:=λH=>jX;have j2: ∀ H,aw P.v (.int 2) H= .ok (.tup (P.s2.map PV.str)) H:=λH=>uR;have j3: ∀ H,aw P.v (.int 3) H= .ok (.tup (P.s3.map PV.str)) H:=λH=>Bm;have j4: ∀ H,aw P.v (.int 4) H= .ok (.tup (P.hs.map bG)) H:=λH=>uJ;have dk:Oa h.length [((.inr "counts" :Key),PV.ref (h.length+(0+1))),(.inr "seats",.ref (h.length+(0+1+1))),(.inr "doors",.ref (h.length+(0+1+1+1)))] (h++[.dct [],.lst [],.lst [],A3])= .ok (.ref h.length) (h++[.dct (mh n),.lst [],.lst [],A3]):=by
  rw[B4 bM (by simp),gW];show RV.ok (PV.ref h.length) (h++[.dct (bW [] (mh n)),.lst [],.lst [],A3])=_;rw[p0]
 have l3:(mh n).length < 16777216:=by simp[mh]
 have l4:(mh n++[((.inr "boxes" :Key),PV.ref (n+4))]).length < 16777216:=by simp[mh]
 have l5:(mh n++[((.inr "boxes" :Key),PV.ref (n+4)),(.inr "locks",.ref (n+5))]).length < 16777216:=by simp[mh]
 have A:iM (run pg (k+10)) [some P.v,none,none,none,none] h= .ok (.rt (.ref h.length)) (h++Y):=by
  show ae _ (ae _ (ae _ (ae _ (ae _ _)))) _ _ _=_;refine(aT (e1:=[some P.v,some (.ref h.length),none,none,none]) (h1:=h++[.dct (mh n),.lst [],.lst [],A3]) ?_).trans ?_
  . simp? [lA,pQ,k4,oV,pj,oG,j3,c3,A3,dk]
  refine(aT (e1:=[some P.v,some (.ref h.length),none,none,none]) (h1:=h++[.dct (mh n++[(.inr "boxes",.ref (n+4))]),.lst [],.lst [],A3,A0]) ?_).trans ?_
  . have q:cM (mh n) (.inr "boxes") (.ref (h.length+(0+1+1+1+1)))=_:=p1;simp? [A0,i0,c0,kg l3,q]
  refine(aT (e1:=[some P.v,some (.ref h.length),none,none,none]) (h1:=h++[.dct (mh n++[(.inr "boxes",.ref (n+4)),(.inr "locks",.ref (n+5))]),.lst [],.lst [],A3,A0,A1]) ?_).trans ?_
  . have q:cM (mh n++[(.inr "boxes",.ref (n+4))]) (.inr "locks") (.ref (h.length+(0+1+1+1+1+1)))=_:=p2;simp? [A1,j1,c1,kg l4,q]
  refine(aT (e1:=[some P.v,some (.ref h.length),none,none,none]) (h1:=h++[.dct (eO (lo n)),.lst [],.lst [],A3,A0,A1,A2]) ?_).trans ?_
  . have q:cM (mh n++[(.inr "boxes",.ref (n+4)),(.inr "locks",.ref (n+5))]) (.inr "lanes") (.ref (h.length+(0+1+1+1+1+1+1)))=_:=p3;simp? [A2,j2,c2,kg l5,q]
  . unfold fB at i2;simp only[UR,Vq,UU] at i2;have sn:sL (lo h.length) []=[]:=rfl;rw[sn] at i2;simp? [j4,i2,n,Y]
 rw[run_eq T.tY rfl];show fin _ (iM (run pg (k+10)) [some P.v,none,none,none,none] h)=_;rw[A,jx];exact cg rfl
end
theorem LX{h:PH}{n:Nat}{ss:List Str}(e:h[n]?=some (.lst (ss.map PV.str)))(hl:ss.length < 64):bI [.ref n] h= .ok (.ref h.length) (h++[.lst ((cv ss).map PV.str)]):=by
 have i0:itemsOf h (.ref n)=some (ss.map PV.str):=by simp[itemsOf,cV,e]
 show fF [.ref n] h=_;unfold fF;simp only[i0,P3.cF,if_pos hl]
theorem AY{hl held:List Str}(n1:hl.Nodup)(n2:held.Nodup)(s2:held.Pairwise iT)(m: ∀ y,y∈hl↔y∈held):cv hl=held :=
 P3.ib (le:=iT) (λa _ b _ h1 h2=>absurd h2 (jS h1)) ((cm hl).trans ((Xd n1 n2).mpr m)) (mE n1) s2
noncomputable def sG:MG:=(gT 3 (aG (gN 2) (aG (gN 3) (aG (gN 4) eF))))
noncomputable def sB:MS:=(ae (ak (eB aN (ab (jT 1 (j7 (eB bI (a1 (aa 3)))) (gN 7) (aM (ai iV (ai aw (aa 3) (aa 7)) (eI 0))) (au (ab (aa 7) (ab (ai aw (aa 3) (aa 7)) ah)))) ah)) (gN 5)) (cX (eM bu bY (aa 1) (ab (au (ab (aa 2) (ab (aa 5) (ab (eB aN (ab (eB bI (a1 (aa 4))) ah)) ah)))) ah))))
section
variable{pg:Tb}(T:cb pg)
include T
theorem xN(k:Nat)(H:PH){n:Lo}{P:Pg}(ok:P.Ok){N:Nat}(N9:N<=60){S:Wd}(W:gQ P N S)(R:Rep H n P S S.aW)(e0:Option PV): ∀(ss:List aF)(i:Nat),(∀(j:Nat)(s:aF),ss[j]?=some s->S.aW[i+j]?=some s)-> ∀(vs:List PV)(Y:PH)(e2 e3 e4 e5:Option PV),vs.length+ss.length<=1000 ->
  ∃(X:PH)(f2 f3 f4 f5:Option PV),bJ ⟨some (n.c 2),sL n S.aW⟩ (bA sG sB (run pg (k+1))) (ss.mapIdx λj=>jZ n (i+j)) [e0,some (.ref H.length),e2,e3,e4,e5,none] (H++ .lst vs::Y)= .ok (.nx [e0,some (.ref H.length),f2,f3,f4,f5,none]) (H++ .lst (vs++ss.map az)::(Y++X)):=by
 have hS:=R.cells.e2;have fi: ∀ Z:PH,kQ.jt ⟨some (n.c 2),sL n S.aW⟩ (H++Z)=true:=λZ=>c7 ((aq (aA hS)).trans hS);intro ss
 induction ss with
 | nil=>intro i _ vs Y e2 e3 e4 e5 _;exact⟨[],e2,e3,e4,e5,by rw[UU,U3,U3];exact yH (fi _)⟩
 | cons s ss ih =>
  intro i hss vs Y e2 e3 e4 e5 hl
  rw[Um] at hl
  have es:S.aW[i]?=some s:=hss 0 s rfl
  have hi:i < P.hs.length:=by rw[<- W.ls];exact(Uh.mp es).1
  have ex:=Ur hi
  have so:=W.se i _ s ex es
  obtain⟨D,hd,h1,h2,h3,h4,h5,h6⟩:=R.p i _ s ex es
  obtain⟨l1,l2,l3⟩:=dR (ok.hd _ (VC hi))
  have hD: ∀ Z:PH,(H++Z)[n.p i]?=some (.dct (cQ D)):=λZ=>(aq (aA h1)).trans h1
  have hJ: ∀ Z:PH,(H++Z)[n.q i]?=some (.lst (hd.map PV.str)):=λZ=>(aq (aA h2)).trans h2
  have dl:D.length < 64:=by have:=h3.len;omega
  have pe:=(Xd h5 so.nd).mpr h6
  have jl:hd.length < 64:=by have:=so.le;rw[pe.length_eq];omega
  have hs:=AY h5 so.nd so.sr h6
  let M:List Str:=cv (D.map (·.1))
  have so1:=H9 (h:=H++ .lst vs::Y) (hD _) dl
  have te:=Hq h3 so.so.pk h4
  have fm:M.filterMap (λz=>if fP D z=0 then none else some (cO (z,fP D z)))=s.ps.map cO:=by
   rw[<- te,<- tF];refine congrFun (congrArg List.filterMap (funext λz=>?_)) M;have:=h3.rR z;by_cases c:fP D z=0
   . rw[if_pos c,if_neg (by omega)]
   . rw[if_neg c,if_pos (by omega)]
  let Y1:PH:=Y++[.lst (M.map PV.str)]
  have lc: ∀ e5:Option PV,fH ⟨some (H.length+(Y.length+1)),M.map PV.str⟩ (aQ 1 (gN 7) (aM (ai iV (ai aw (aa 3) (aa 7)) (eI 0))) (au (ab (aa 7) (ab (ai aw (aa 3) (aa 7)) ah))) (run pg (k+1)) [e0,some (.ref H.length),some (.int s.row),some (.ref (n.p i)),some (.ref (n.q i)),e5,none]) (M.map PV.str) [] (H++ .lst vs::Y1)= .ok (s.ps.map cO) (H++ .lst vs::Y1):=λe5=>by
   refine(fE (c7 (by rw[bo,UE];exact bM)) M [] (f:=λz=>if fP D z=0 then none else some (cO (z,fP D z))) (g:=PV.str) (λz m=>?_) ?_).trans (by rw[UR,fm])
   . have va:bT (cQ D) (.inr z)=some (.int (fP D z)):=Il (D:=D) ((cm _).mem_iff.mp m);have hd:=hD (.lst vs::Y1);by_cases c:fP D z=0
     . simp? [hd,va,c,cO]
     . simp? [hd,va,c,cO]
   . have:M.length=D.length:=by rw[(cm _).length_eq,Ui]
     simp;omega
  let Y2:PH:=Y1++[.lst (s.ps.map cO)]
  have sl:=LX (h:=H++ .lst vs::Y2) (hJ _) jl
  rw[hs] at sl
  have hz:vs.length < 16777216:=by omega
  obtain⟨X,f2,f3,f4,f5,i1⟩:=ih (i+1) (λj t e=>by rw[Yb,XR 1 j];exact hss (j+1) t e) (vs++[az s]) (Y++[.lst (M.map PV.str),.lst (s.ps.map cO),.lst (s.held.map PV.str)]) (some (.int s.row)) (some (.ref (n.p i))) (some (.ref (n.q i))) (some (.tup (s.ps.map cO))) (by simp only[Uu,Um,UL];omega)
  refine⟨[.lst (M.map PV.str),.lst (s.ps.map cO),.lst (s.held.map PV.str)]++X,f2,f3,f4,f5,?_⟩
  have sv:az s= .tup [.int s.row,.tup (s.ps.map cO),.tup (s.held.map PV.str)]:=rfl
  have st:bA sG sB (run pg (k+1)) (jZ n i s) [e0,some (.ref H.length),e2,e3,e4,e5,none] (H++ .lst vs::Y)= .ok (.nx [e0,some (.ref H.length),some (.int s.row),some (.ref (n.p i)),some (.ref (n.q i)),some (.tup (s.ps.map cO)),none]) (H++ .lst (vs++[az s])::(Y++[.lst (M.map PV.str),.lst (s.ps.map cO),.lst (s.held.map PV.str)])):=by
   have so':bI [.ref (n.p i)] (H++ .lst vs::Y)= .ok (.ref (H.length+(Y.length+1))) (H++ .lst vs::(Y++[.lst (M.map PV.str)])):=by rw[so1];simp[M]
   have sl':bI [.ref (n.q i)] (H++ .lst vs::(Y++[.lst (M.map PV.str),.lst (s.ps.map cO)]))= .ok (.ref (H.length+(Y.length+(0+1+1)+1))) (H++ .lst vs::(Y++[.lst (M.map PV.str),.lst (s.ps.map cO),.lst (s.held.map PV.str)])):=by
    simp only[Y2,Y1,UT,Vq,UR] at sl;rw[sl];simp
   simp only[Y1] at lc;rw[sv];simp? [sG,sB,jZ,so',lc,sl',pY hz]
  have it:(s::ss).mapIdx (λj=>jZ n (i+j))=jZ n i s::ss.mapIdx λj=>jZ n (i+1+j):=by
   rw[abr];refine congrArg (jZ n i s:: ·) (congrFun (congrArg List.mapIdx (funext λj=>?_)) ss)
   rw[show i+(j+1)=i+1+j by omega]
  rw[it,yJ (fi _),st,cB,bS,i1]
  simp
theorem tw(k:Nat)(H:PH){n:Lo}{P:Pg}(ok:P.Ok){N:Nat}(N9:N<=60){S:Wd}(W:gQ P N S)(R:Rep H n P S S.aW):run pg (k+2) "_law_stand" [.ref (n.c 0)] H= .ok (aS S) H:=by
 have hm:=ok.many;have C:=R.cells;obtain⟨X,f2,f3,f4,f5,lp⟩:=xN T k H ok N9 W R (some (.ref (n.c 0))) S.aW 0 (λj s e=>by rw[Xi];exact e) [] [] none none none none (by rw[W.ls];simp;omega);rw[UR,UR,show(λj=>jZ n (0+j))=jZ n from funext λj=>by rw[Xi]] at lp;obtain⟨v1,v2,v3,v4,v5,v6⟩:=cK n;have sx: ∀(Z:PH)(key:Str)(m:Nat),bT (eO n) (.inr key)=some (.ref m)->aw (.ref (n.c 0)) (.str key) (H++Z)= .ok (.ref m) (H++Z):=λZ key m e=>by
  rw[jk,(aq (aA C.e0)).trans C.e0,NI,e];rfl
 have tu: ∀(Z:PH)(i:Nat)(xs:List PV),H[n.c i]?=some (.lst xs)->aN [.ref (n.c i)] (H++Z)= .ok (.tup xs) (H++Z):=λZ i xs e=>by
  rw[tD,(aq (aA e)).trans e,p7]
 have it:nT (.ref (n.c 2)) (H++[.lst []])= .ok ⟨some (n.c 2),sL n S.aW⟩ (H++[.lst []]):=by rw[tQ,(aq (aA C.e2)).trans C.e2,tO]
 have ad: ∀(a b c d e f:PV) H,bf (.tup [a,b,c,d]) (.tup [e,f]) H= .ok (.tup [a,b,c,d,e,f]) H:=λa b c d e f H=>jO (by simp);have fl:=wo _ (ym ok (by omega) W).ok;have lp':bJ ⟨some (n.c 2),sL n S.aW⟩ (bA sG sB (run pg (k+1))) (sL n S.aW) [some (.ref (n.c 0)),some (.ref H.length),none,none,none,none,none] (H++[.lst []])= .ok (.nx [some (.ref (n.c 0)),some (.ref H.length),f2,f3,f4,f5,none]) (H++ .lst (S.aW.map az)::X):=lp;unfold sG sB at lp';unfold aS at fl ⊢;rw[run_eq T.sW rfl];simp? [fK,lO,sx _ _ _ v1,sx _ _ _ v2,sx _ _ _ v3,sx _ _ _ v4,sx _ _ _ v5,sx _ _ _ v6,it,lp',tu _ _ _ C.e1,tu _ _ _ C.e3,tu _ _ _ C.e4,tu _ _ _ C.e5,tu _ _ _ C.e6,ad];exact cj fl
end
noncomputable def Et(D m:Nat):Lo:=⟨λi=>match i with
 | 0=>D | 1=>D+2+2*m | 2=>D+1+2*m | 3=>D+6+2*m | 4=>D+3+2*m | 5=>D+4+2*m | i=>D+i - 1+2*m,λj=>D+1+2*j,λj=>D+2+2*j⟩
theorem Mc(D m:Nat):(Et D m).Ap m:=by
 have at_: ∀ i,i < 7->(Et D m).c i=D+(if i=0 then 0 else if i=1 then 2+2*m else if i=2 then 1+2*m else if i=3 then 6+2*m else if i=4 then 3+2*m else if i=5 then 4+2*m else 5+2*m):=λi hi=>by
  match i,hi with
  | 0,_=>rfl
  | 1,_=>show D+2+2*m=D+(2+2*m);omega
  | 2,_=>show D+1+2*m=D+(1+2*m);omega
  | 3,_=>show D+6+2*m=D+(6+2*m);omega
  | 4,_=>show D+3+2*m=D+(3+2*m);omega
  | 5,_=>show D+4+2*m=D+(4+2*m);omega
  | 6,_=>show D+6 - 1+2*m=D+(5+2*m);omega
 refine⟨λi k hi hk ne=>?_,λi j hi hj=>?_,λi j hi hj=>?_,λi j _ _ ne=>?_,λi j _ _ ne=>?_,λi j _ _=>?_⟩
 . rw[at_ i hi,at_ k hk];(repeat' split)<;>omega
 . rw[at_ i hi];show _≠D+1+2*j;(repeat' split)<;>omega
 . rw[at_ i hi];show _≠D+2+2*j;(repeat' split)<;>omega
 . show D+1+2*i≠D+1+2*j;omega
 . show D+2+2*i≠D+2+2*j;omega
 . show D+1+2*i≠D+2+2*j;omega
structure CI(P:Pg)(S:Wd)(i:Nat)(Y:PH):Prop where
 len:Y.length=2*i
 at_: ∀(j:Nat)(x:Str × List Rw)(s:aF),j < i->P.hs[j]?=some x->S.aW[j]?=some s-> ∃(D:Pk)(hl:List Str),Y[2*j]?=some (.dct (cQ D))/\Y[2*j+1]?=some (.lst (hl.map PV.str))/\oI (F0 x) D/\(∀ y,fP D y=fP s.ps y)/\hl.Nodup/\ ∀ y,y∈hl↔y∈s.held
theorem BU{H:PH}{d:Nat}{D:Pk}(e:H[d]?=some (.dct (cQ D)))(nd:(D.map (·.1)).Nodup)(dl:D.length<=1000):ia [.ref d] H= .ok (.ref H.length) (H++[.dct (cQ D)]):=by
 have z:(cQ D).length<=sizeLine:=by unfold cQ;rw[Ui];exact UO dl (by decide)
 simp only[ia,e,if_pos z,uI nd]
theorem DE{H:PH}{d:Nat}{n:Lo}(e:H[d]?=some (.dct (eO n))):ia [.ref d] H= .ok (.ref H.length) (H++[.dct (eO n)]):=by
 have z:(eO n).length<=sizeLine:=by show 6<=_;decide
 have m:bW [] (eO n)=eO n:=by simp[eO,bW,cM,aO]
 simp only[ia,e,if_pos z,m]
noncomputable def OX:MG:=(gT 3 (aG (gN 3) (aG (gN 4) (aG (gN 5) eF))))
noncomputable def PX:ME:=(au (ab (aa 3) (ab (eB ia (a1 (aa 4))) (ab (eB gU (a1 (aa 5))) ah))))
section
variable{pg:Tb}(T:cb pg)
include T
theorem Ab(k:Nat)(H:PH){n:Lo}{P:Pg}(ok:P.Ok){N:Nat}{S:Wd}(W:gQ P N S)(R:Rep H n P S S.aW)(e1 e2:Option PV): ∀(ss:List aF)(i:Nat)(ys:List PV)(Y:PH),(∀(j:Nat)(s:aF),ss[j]?=some s->S.aW[i+j]?=some s)->i+ss.length=S.aW.length->ys.length+ss.length<=1000->CI P S i Y ->
  ∃ X:PH,CI P S S.aW.length (Y++X)/\fH ⟨some (n.c 2),sL n S.aW⟩ (aQ 3 OX aP PX (run pg k) [some (.ref (n.c 0)),e1,e2]) (ss.mapIdx λj=>jZ n (i+j)) ys (H++ .dct (eO n)::Y)= .ok (ys++ss.mapIdx λj=>jZ (Et H.length P.hs.length) (i+j)) (H++ .dct (eO n)::(Y++X)):=by
 have hS:=R.cells.e2;have fi: ∀ Z:PH,kQ.jt ⟨some (n.c 2),sL n S.aW⟩ (H++Z)=true:=λZ=>c7 ((aq (aA hS)).trans hS);intro ss
 induction ss with
 | nil=>intro i ys Y _ hi _ I;exact⟨[],by rw[U3,<- hi];exact I,by rw[U3];show fH _ _ [] _ _=_;rw[P3.fH,if_pos (fi _),List.mapIdx_nil,U3]⟩
 | cons s ss ih =>
  intro i ys Y hss hi hl I
  rw[Um] at hi hl
  have es:S.aW[i]?=some s:=hss 0 s rfl
  have hj:i < P.hs.length:=by rw[<- W.ls];exact(Uh.mp es).1
  have ex:=Ur hj
  obtain⟨D,hd,h1,h2,h3,h4,h5,h6⟩:=R.p i _ s ex es
  obtain⟨l1,l2,l3⟩:=dR (ok.hd _ (VC hj))
  have dl:=h3.len
  have lY:=I.len
  have dc:=BU (H:=H++ .dct (eO n)::Y) (d:=n.p i) ((aq (aA h1)).trans h1) h3.nd (by omega)
  have dc':ia [.ref (n.p i)] (H++ .dct (eO n)::Y)= .ok (.ref (H.length+(Y.length+1))) (H++ .dct (eO n)::(Y++[.dct (cQ D)])):=by
   refine dc.trans ?_;rw[Uu,UT];rfl
  have hq:(H++PO.dct (eO n)::(Y++[.dct (cQ D)]))[n.q i]?=some (.lst (hd.map PV.str)):=(aq (aA h2)).trans h2
  have I':CI P S (i+1) (Y++[.dct (cQ D),.lst (hd.map PV.str)]):=by
   refine⟨by simp only[Uu,Um,UL];omega,λj x t hj' ex' et=>?_⟩;by_cases z:j < i
   . obtain⟨D0,g0,a1,a2,a3⟩:=I.at_ j x t z ex' et;exact⟨D0,g0,(aq (aA a1)).trans a1,(aq (aA a2)).trans a2,a3⟩
   . have ej:j=i:=by omega
     subst ej;rw[ex] at ex';rw[es] at et;cases ex';cases et;refine⟨D,hd,?_,?_,h3,h4,h5,h6⟩
     . rw[<- lY];exact bM
     . rw[<- lY,bo];rfl
  obtain⟨X,i1,i2⟩:=ih (i+1) (ys++[jZ (Et H.length P.hs.length) i s]) (Y++[.dct (cQ D),.lst (hd.map PV.str)]) (λj t e=>by rw[Yb,XR 1 j];exact hss (j+1) t e) (by omega) (by simp;omega) I'
  refine⟨[.dct (cQ D),.lst (hd.map PV.str)]++X,by rw[<- UT];exact i1,?_⟩
  have hz:ys.length < sizeLine:=Ut (show ys.length < 1001 by omega) (by decide)
  have st:aQ 3 OX aP PX (run pg k) [some (.ref (n.c 0)),e1,e2] (jZ n i s) (H++ .dct (eO n)::Y)= .ok (some (jZ (Et H.length P.hs.length) i s)) (H++ .dct (eO n)::(Y++[.dct (cQ D),.lst (hd.map PV.str)])):=by
   have sv:jZ (Et H.length P.hs.length) i s= .tup [.int s.row,.ref (H.length+(Y.length+1)),.ref (H.length+(Y.length+(0+1)+1))]:=by
    show PV.tup [.int s.row,.ref (H.length+1+2*i),.ref (H.length+2+2*i)]=_;rw[show H.length+1+2*i=H.length+(Y.length+1) by omega,show H.length+2+2*i=H.length+(Y.length+(0+1)+1) by omega]
   rw[sv];simp? [OX,PX,jZ,dc',hq]
  have it: ∀ m:Lo,(s::ss).mapIdx (λj=>jZ m (i+j))=jZ m i s::ss.mapIdx λj=>jZ m (i+1+j):=λm=>by
   rw[abr];refine congrArg (jZ m i s:: ·) (congrFun (congrArg List.mapIdx (funext λj=>?_)) ss)
   rw[show i+(j+1)=i+1+j by omega]
  rw[it n,it (Et H.length P.hs.length),P3.fH,if_pos ⟨fi _,hz⟩,st,cH]
  refine i2.trans ?_
  simp
end
section
variable{pg:Tb}(T:cb pg)
include T
theorem copy_eq(k:Nat)(H:PH){n:Lo}{P:Pg}(ok:P.Ok){N:Nat}{S:Wd}(W:gQ P N S)(R:Rep H n P S S.aW) :
  ∃ X:PH,Rep (H++X) (Et H.length P.hs.length) P S S.aW/\run pg (k+1) "_law_copy" [.ref (n.c 0)] H= .ok (.ref H.length) (H++X):=by
 have hm:=ok.many;have C:=R.cells;have ls:=W.ls;obtain⟨v1,v2,v3,v4,v5,v6⟩:=cK n
 let m:=P.hs.length
 let c:=Et H.length m
 obtain⟨Y,ci,lp⟩:=Ab T k H ok W R (some (.ref H.length)) none S.aW 0 [] [] (λj s e=>by rw[Xi];exact e) (by omega) (by simp;omega) ⟨rfl,λj x s h=>by omega⟩;rw[UR] at ci;rw[UR,UR,show(λj=>jZ n (0+j))=jZ n from funext λj=>by rw[Xi],show(λj=>jZ (Et H.length P.hs.length) (0+j))=jZ c from funext λj=>by rw[Xi]] at lp;have lY:=ci.len
 let L0:PO:= .lst (sL c S.aW)
 let L1:PO:= .lst (S.cA.map PV.int)
 let L4:PO:= .lst (S.ig.map gO)
 let L5:PO:= .lst (S.ee.map fz)
 let L6:PO:= .lst (S.cY.map fu)
 let L3:PO:= .lst (S.jY.map PV.int)
 let X:PH:= .dct (eO c)::(Y++[L0,L1,L4,L5,L6,L3])
 have at_: ∀ i,i < 2*m->(H++X)[H.length+1+i]?=Y[i]?:=λi hi=>by
  rw[Yb,XR 1 i,bo];show(Y++_)[i]?=_;exact aq (by omega)
 have new: ∀ i,(H++X)[H.length+1+2*m+i]?=[L0,L1,L4,L5,L6,L3][i]?:=λi=>by
  rw[show H.length+1+2*m+i=H.length+(Y.length+i+1) by omega,bo];show(Y++_)[Y.length+i]?=_;exact bo
 have at2: ∀ i a,a=H.length+1+2*m+i->(H++X)[a]?=[L0,L1,L4,L5,L6,L3][i]?:=λi a e=>by rw[e];exact new i
 refine⟨X,⟨Mc _ _,λi hi=>?_,λj x s ex es=>?_⟩,?_⟩
 . match i,hi with
   | 0,_=>exact bM
   | 1,_=>exact at2 1 _ (by show H.length+2+2*m=_;omega)
   | 2,_=>exact at2 0 _ rfl
   | 3,_=>exact at2 5 _ (by show H.length+6+2*m=_;omega)
   | 4,_=>exact at2 2 _ (by show H.length+3+2*m=_;omega)
   | 5,_=>exact at2 3 _ (by show H.length+4+2*m=_;omega)
   | 6,_=>exact at2 4 _ (by show H.length+6 - 1+2*m=_;omega)
 . have lj:=(Uh.mp ex).1;obtain⟨D,hl,a1,a2,a3⟩:=ci.at_ j x s (by omega) ex es;refine⟨D,hl,?_,?_,a3⟩
   . show(H++X)[H.length+1+2*j]?=_;rw[at_ _ (by omega)];exact a1
   . show(H++X)[H.length+2+2*j]?=_;rw[show H.length+2+2*j=H.length+1+(2*j+1) by omega,at_ _ (by omega)];exact a2
 have dc:=DE C.e0
 let e1:List (Key × PV):=[(.inr "counts",.ref (n.c 1)),(.inr "seats",.ref (c.c 2)),(.inr "doors",.ref (n.c 3)),(.inr "boxes",.ref (n.c 4)),(.inr "locks",.ref (n.c 5)),(.inr "lanes",.ref (n.c 6))]
 let e2:List (Key × PV):=[(.inr "counts",.ref (c.c 1)),(.inr "seats",.ref (c.c 2)),(.inr "doors",.ref (n.c 3)),(.inr "boxes",.ref (n.c 4)),(.inr "locks",.ref (n.c 5)),(.inr "lanes",.ref (n.c 6))]
 let e3:List (Key × PV):=[(.inr "counts",.ref (c.c 1)),(.inr "seats",.ref (c.c 2)),(.inr "doors",.ref (n.c 3)),(.inr "boxes",.ref (c.c 4)),(.inr "locks",.ref (n.c 5)),(.inr "lanes",.ref (n.c 6))]
 let e4:List (Key × PV):=[(.inr "counts",.ref (c.c 1)),(.inr "seats",.ref (c.c 2)),(.inr "doors",.ref (n.c 3)),(.inr "boxes",.ref (c.c 4)),(.inr "locks",.ref (c.c 5)),(.inr "lanes",.ref (n.c 6))]
 let e5:List (Key × PV):=[(.inr "counts",.ref (c.c 1)),(.inr "seats",.ref (c.c 2)),(.inr "doors",.ref (n.c 3)),(.inr "boxes",.ref (c.c 4)),(.inr "locks",.ref (c.c 5)),(.inr "lanes",.ref (c.c 6))]
 have p1:cM (eO n) (.inr "seats") (.ref (c.c 2))=e1:=by simp[eO,e1,cM,aO]
 have p2:cM e1 (.inr "counts") (.ref (c.c 1))=e2:=by simp[e1,e2,cM,aO]
 have p3:cM e2 (.inr "boxes") (.ref (c.c 4))=e3:=by simp[e2,e3,cM,aO]
 have p4:cM e3 (.inr "locks") (.ref (c.c 5))=e4:=by simp[e3,e4,cM,aO]
 have p5:cM e4 (.inr "lanes") (.ref (c.c 6))=e5:=by simp[e4,e5,cM,aO]
 have p6:cM e5 (.inr "doors") (.ref (c.c 3))=eO c:=by simp[e5,eO,cM,aO]
 have sx: ∀(Z:PH)(key:Str)(i:Nat),bT (eO n) (.inr key)=some (.ref (n.c i))->aw (.ref (n.c 0)) (.str key) (H++Z)= .ok (.ref (n.c i)) (H++Z):=λZ key i e=>by
  rw[jk,(aq (aA C.e0)).trans C.e0,NI,e];rfl
 have li: ∀(Z:PH)(i:Nat)(xs:List PV),H[n.c i]?=some (.lst xs)->gU [.ref (n.c i)] (H++Z)= .ok (.ref (H++Z).length) (H++(Z++[.lst xs])):=λZ i xs e=>by
  rw[B1,(aq (aA e)).trans e,zB,UT]
 have pu: ∀(d d':List (Key × PV))(Z:PH)(key:Str)(v:PV),d.length=6->cM d (.inr key) v=d'->dI (.ref H.length) (.str key) v (H++ .dct d::Z)= .ok () (H++ .dct d'::Z):=λd d' Z key v hd e=>by
  rw[Cf,bM,kg (by omega),e,gW];rfl
 have stp: ∀(d d':List (Key × PV))(Z:PH)(key:Str)(i:Nat)(xs:List PV)(w:Nat)(u2:Option PV),d.length=6->bT (eO n) (.inr key)=some (.ref (n.c i))->H[n.c i]?=some (.lst xs)->w=H.length+(Z.length+1)->cM d (.inr key) (.ref w)=d' ->
   bA (gN 2) (eJ dI (aa 1) (aa 2) (eB gU (ab (ai aw (aa 0) (aa 2)) ah))) (run pg k) (.str key) [some (.ref (n.c 0)),some (.ref H.length),u2] (H++ .dct d::Z)= .ok (.nx [some (.ref (n.c 0)),some (.ref H.length),some (.str key)]) (H++ .dct d'::(Z++[.lst xs])):=λd d' Z key i xs w u2 hd hv hx hw hp=>by
  have a1:=sx (.dct d::Z) key i hv;have a2:=li (.dct d::Z) i xs hx;have ln:(H++PO.dct d::Z).length=w:=by rw[Uu,Um];omega
  rw[ln] at a2;have a3:=pu d d' (Z++[.lst xs]) key (.ref w) hd hp;have a2':gU [.ref (n.c i)] (H++ .dct d::Z)= .ok (.ref w) (H++ .dct d::(Z++[.lst xs])):=a2
  clear a2 li pu sx
  simp? [a1,a2',a3]
 have s1:=stp e1 e2 (Y++[L0]) "counts" 1 _ (c.c 1) none rfl v1 C.e1 (by show H.length+2+2*m=_;simp;omega) p2;have s2:=stp e2 e3 (Y++[L0]++[L1]) "boxes" 4 _ (c.c 4) (some (.str "counts")) rfl v4 C.e4 (by show H.length+3+2*m=_;simp;omega) p3;have s3:=stp e3 e4 (Y++[L0]++[L1]++[L4]) "locks" 5 _ (c.c 5) (some (.str "boxes")) rfl v5 C.e5 (by show H.length+4+2*m=_;simp;omega) p4;have s4:=stp e4 e5 (Y++[L0]++[L1]++[L4]++[L5]) "lanes" 6 _ (c.c 6) (some (.str "locks")) rfl v6 C.e6 (by show H.length+6 - 1+2*m=_;simp;omega) p5;have s5:=stp e5 (eO c) (Y++[L0]++[L1]++[L4]++[L5]++[L6]) "doors" 3 _ (c.c 3) (some (.str "lanes")) rfl v3 C.e3 (by show H.length+6+2*m=_;simp;omega) p6;have it:nT (.ref (n.c 2)) (H++[.dct (eO n)])= .ok ⟨some (n.c 2),sL n S.aW⟩ (H++[.dct (eO n)]):=by rw[tQ,(aq (aA C.e2)).trans C.e2,tO]
 have A:ja (run pg k) [some (.ref (n.c 0)),none,none] H= .ok (.rt (.ref H.length)) (H++X):=by
  show ae _ (ae _ (ae _ _)) _ _ _=_;refine(aT (e1:=[some (.ref (n.c 0)),some (.ref H.length),none]) (h1:=H++[.dct (eO n)]) ?_).trans ?_
  . simp? [dc]
  refine(aT (e1:=[some (.ref (n.c 0)),some (.ref H.length),none]) (h1:=H++ .dct e1::(Y++[L0])) ?_).trans ?_
  . have a1:=sx [.dct (eO n)] "seats" 2 v2;have p1':cM (eO n) (.inr "seats") (.ref (H.length+(Y.length+1)))=e1:=by
     rw[<- p1,show H.length+(Y.length+1)=c.c 2 by show _=H.length+1+2*m;omega]
    have a3:=pu (eO n) e1 (Y++[L0]) "seats" _ rfl p1';have lp':fH ⟨some (n.c 2),sL n S.aW⟩ (aQ 3 OX aP PX (run pg k) [some (.ref (n.c 0)),some (.ref H.length),none]) (sL n S.aW) [] (H++[.dct (eO n)])= .ok (sL c S.aW) (H++ .dct (eO n)::Y):=lp;unfold OX PX at lp';simp? [a1,it,lp',L0,↓a3]
  refine(aT (e1:=[some (.ref (n.c 0)),some (.ref H.length),some (.str "doors")]) (h1:=H++X) ?_).trans ?_
  . simp(disch:=omega) only[↓m7,↓DI,↓BR,↓lZ,jU,jM,↓Jb,B7,DJ,Ct,↓Jd,cB,zv,sX,DC,jV,Um,UL];rw[dh,s1,cB,bS,dh,s2,cB,bS,dh,s3,cB,bS,dh,s4,cB,bS,dh,s5,cB,bS,fZ];simp[X,L3]
  . simp? [UU]
 rw[run_eq T.vk rfl];show fin _ (ja (run pg k) [some (.ref (n.c 0)),none,none] H)=_;rw[A,jx];exact cg rfl
end
theorem GB{D m i:Nat}(h:i < D):(Et D m).Out m i:=by
 refine⟨λk hk=>?_,λj _=>⟨by show D+1+2*j≠i;omega,by show D+2+2*j≠i;omega⟩⟩
 match k,hk with
 | 0,_=>show D≠i;omega
 | 1,_=>show D+2+2*m≠i;omega
 | 2,_=>show D+1+2*m≠i;omega
 | 3,_=>show D+6+2*m≠i;omega
 | 4,_=>show D+3+2*m≠i;omega
 | 5,_=>show D+4+2*m≠i;omega
 | 6,_=>show D+6 - 1+2*m≠i;omega
theorem x6{H H1:PH}(l:H.length<=H1.length)(e: ∀ i,i < H.length->H1[i]?=H[i]?): ∃ X,H1=H++X:=by
 refine⟨H1.drop H.length,Y6 λi=>?_⟩;by_cases z:i < H.length
 . rw[e i z];exact(aq z).symm
 . rw[UM (by omega),List.getElem?_drop,show H.length+(i - H.length)=i by omega]
noncomputable def RA:MS:=(b6 (Iv (aM (ai iV (eB fw (ab (ag "gone" (ab (aa 0) (a3 (aa 1) (aa 3) (aa 4)))) ah)) (aa 8))) (aM (ai iV (eB fw (a1 (aa 1))) (aa 5)))) (ay (eC (.bl false))) cP)
section
variable{pg:Tb}(T:cb pg)
include T
theorem xp(k:Nat)(H:PH){n:Lo}{P:Pg}(ok:P.Ok){N:Nat}{S:Wd}(W:gQ P N S)(N9:N<=58)(R:Rep H n P S S.aW){j:Nat}{g l:PV}{S1:Wd}(st:Hl P S j g l S1) :
  run pg (k+14) "_law_is_step" [P.v,aS S,.ref (n.c 0),gE j,g] H= .ok (.bl true) H:=by
 obtain⟨h1,h2,h3⟩:=st.sh ok (by omega) W;have W1:=st.ok ok W;obtain⟨x,s,c,r,ex,es,ec,er,hw,hg,eS,el⟩:=st.at_;obtain⟨X,R1,cp⟩:=copy_eq T (k+12) H ok W R;obtain⟨H1,F,R2,go⟩:=rC T (k+2) ok W (by omega) R1 ex es ec er hw hg;obtain⟨X',rfl⟩:=x6 (H:=H) (H1:=H1) (by rw[F.len,Uu];omega) λi hi=>by rw[F.off i (GB hi)];exact aq hi
 rw[<- eS] at R2;rw[<- el] at go;have ls:=tw T (k+11) (H++X') ok (by omega) W1 R2;have ge:=yX T k (H++X') ok W (by omega) ex es ec er hw hg;rw[<- eS,<- el] at ge;obtain⟨x1,s1⟩:=(ym ok (by omega) W).show;obtain⟨x2,s2⟩:=(eY 6 (ym ok (by omega) W1) (eY 6 h3 (tE 6))).show;have s1': ∀ h,fw [aS S] h= .ok (.str x1) h:=s1;have go':run pg (k+13) "_law_go" [P.v,.ref H.length,gE j,g] (H++X)= .ok l (H++X'):=go;have ls':run pg (k+13) "_law_stand" [.ref H.length] (H++X')= .ok (aS S1) (H++X'):=ls;have ge':run pg (k+13) "gone" [P.v,aS S,gE j,g] (H++X')= .ok (.tup [aS S1,l]) (H++X'):=ge;have bd: ∀(i:PV)(e9:Option PV),bA (gN 9) RA (run pg (k+13)) i [some P.v,some (aS S),some (.ref (n.c 0)),some (gE j),some g,some (.str x1),some (.ref H.length),some l,some (.str x2),e9] (H++X')= .ok (.nx [some P.v,some (aS S),some (.ref (n.c 0)),some (gE j),some g,some (.str x1),some (.ref H.length),some l,some (.str x2),some i]) (H++X'):=λi e9=>by
  generalize H++X'=Z at ge';simp? [RA,ge',s2,s1']
 have lp: ∀(xs0 aj:List PV)(e9:Option PV),∃ f9,bJ ⟨none,xs0⟩ (bA (gN 9) RA (run pg (k+13))) aj [some P.v,some (aS S),some (.ref (n.c 0)),some (gE j),some g,some (.str x1),some (.ref H.length),some l,some (.str x2),e9] (H++X')= .ok (.nx [some P.v,some (aS S),some (.ref (n.c 0)),some (gE j),some g,some (.str x1),some (.ref H.length),some l,some (.str x2),f9]) (H++X'):=by
  intro xs0 aj
  induction aj with
  | nil=>exact λe9=>⟨e9,fZ⟩
  | cons y aj ih=>intro e9;obtain⟨f9,h⟩:=ih (some y);exact⟨f9,by rw[dh,bd,cB,bS];exact h⟩
 obtain⟨f9,l2⟩:=lp (aE 0 2) (aE 0 2) none;have r4:aE 0 (2:Int).toNat=aE 0 2:=rfl;unfold RA at l2;have cp':run pg (k+13) "_law_copy" [.ref (n.c 0)] H= .ok (.ref H.length) (H++X):=cp;have A:fW (run pg (k+13)) [some P.v,some (aS S),some (.ref (n.c 0)),some (gE j),some g,none,none,none,none,none] H= .ok (.rt (.bl true)) (H++X'):=by
  show ae _ (ae _ (ae _ (ae _ (ae _ _)))) _ _ _=_;refine(aT (e1:=[some P.v,some (aS S),some (.ref (n.c 0)),some (gE j),some g,some (.str x1),none,none,none,none]) (h1:=H) ?_).trans ?_
  . simp? [s1']
  refine(aT (e1:=[some P.v,some (aS S),some (.ref (n.c 0)),some (gE j),some g,some (.str x1),some (.ref H.length),none,none,none]) (h1:=H++X) ?_).trans ?_
  . simp? [cp']
  refine(aT (e1:=[some P.v,some (aS S),some (.ref (n.c 0)),some (gE j),some g,some (.str x1),some (.ref H.length),some l,none,none]) (h1:=H++X') ?_).trans ?_
  . generalize H++X'=Z' at go';generalize H++X=Z at go';simp? [go']
  refine(aT (e1:=[some P.v,some (aS S),some (.ref (n.c 0)),some (gE j),some g,some (.str x1),some (.ref H.length),some l,some (.str x2),none]) (h1:=H++X') ?_).trans ?_
  . generalize H++X'=Z at ls';simp? [ls',s2]
  refine(aT (e1:=[some P.v,some (aS S),some (.ref (n.c 0)),some (gE j),some g,some (.str x1),some (.ref H.length),some l,some (.str x2),f9]) (h1:=H++X') ?_).trans ?_
  . generalize H++X'=Z at l2;simp? [↓m7,↓oF,lQ,cB,jV,r4,l2]
  . simp? [UU]
 rw[run_eq T.oT rfl];show fin _ (fW (run pg (k+13)) [some P.v,some (aS S),some (.ref (n.c 0)),some (gE j),some g,none,none,none,none,none] H)=_;rw[A,jx];exact cj rfl
end
noncomputable def room:Nat:=24
theorem Rep.R0{H H':PH}{n:Nat}{P:Pg}{S:Wd}{ss:List aF}(R:Rep H (lo n) P S ss)(e: ∀ i,n<=i->i < n+7+3*P.hs.length->H'[i]?=H[i]?):Rep H' (lo n) P S ss:=R.same λi hi=>by
 by_cases z:i < n\/n+7+3*P.hs.length<=i
 . exact absurd (pH z) hi
 . exact e i (by omega) (by omega)
structure IC(sl:Nat)(n:Nat->Nat)(P:Nat->Pg):Prop where
 n0:n 0=3
 n1:n 1=n 0+7+3*(P 0).hs.length
 s:sl=n 1+7+3*(P 1).hs.length
 ok: ∀ b,b < 2->(P b).Ok
structure Inv(sl:Nat)(n:Nat->Nat)(P:Nat->Pg)(N:Nat)(S:Nat->Wd)(H:PH):Prop where
 e2:H[2]?=some (.lst [(P 0).v,(P 1).v])
 es:H[sl]?=some (.lst [.ref (n 0),.ref (n 1)])
 ed:H[sl+1]?=some (.lst [aS (S 0),aS (S 1)])
 W: ∀ b,b < 2->gQ (P b) N (S b)
 R: ∀ b,b < 2->Rep H (lo (n b)) (P b) (S b) (S b).aW
theorem two{b:Nat}(h:b < 2):b=0\/b=1:=by omega
theorem uv{f:Nat->PV}{b:Nat}(h:b < 2):dS [f 0,f 1] (b:Int)=some (f b):=by
 rcases two h with rfl | rfl<;>rfl
theorem Inv.up{sl:Nat}{n:Nat->Nat}{P:Nat->Pg}{N:Nat}{S:Nat->Wd}{H:PH}(I:Inv sl n P N S H)(q:List PO):Inv sl n P (N+1) S (H++q) :=
 ⟨(aq (aA I.e2)).trans I.e2,(aq (aA I.es)).trans I.es,(aq (aA I.ed)).trans I.ed,λb h=>(I.W b h).up,λb h=>(I.R b h).app q⟩
theorem Inv.box{sl:Nat}{n:Nat->Nat}{P:Nat->Pg}{N:Nat}{S:Nat->Wd}{fr:PO}{q q':Int × Int × Int}{G:PH}(g:IC sl n P)(I:Inv sl n P N S (fr::aU q::G)):Inv sl n P N S (fr::aU q'::G):=by
 have off: ∀ i,2<=i->(fr::aU q'::G)[i]?=(fr::aU q::G)[i]?:=λi hi=>by
  obtain⟨k,rfl⟩: ∃ k,i=k+1+1:=⟨i - 2,by omega⟩
  rfl
 have n0:=g.n0;have n1:=g.n1;have s:=g.s;refine⟨I.e2,by rw[off _ (by omega)];exact I.es,by rw[off _ (by omega)];exact I.ed,I.W,λb h=>(I.R b h).R0 λi h1 h2=>off i ?_⟩;rcases two h with rfl | rfl<;>omega
theorem Q3{sl:Nat}{n:Nat->Nat}{P:Nat->Pg}{N:Nat}{S:Nat->Wd}{H H4:PH}(g:IC sl n P)(I:Inv sl n P N S H){b:Nat}(hb:b < 2){S1:Wd}(F:Fr (lo (n b)) (P b).hs.length (H.set (sl+1) (.lst ([aS (S 0),aS (S 1)].set b (aS S1)))) H4)(W1:gQ (P b) (N+1) S1)(R1:Rep H4 (lo (n b)) (P b) S1 S1.aW):Inv sl n P (N+1) (λi=>if i=b then S1 else S i) H4:=by
 have n0:=g.n0;have n1:=g.n1;have s:=g.s;have lb:n b+7+3*(P b).hs.length<=sl/\3<=n b:=by rcases two hb with rfl | rfl<;>omega
 have out: ∀ i,(i < n b\/n b+7+3*(P b).hs.length<=i)->i≠sl+1->H4[i]?=H[i]?:=λi h1 h2=>by rw[F.off i (pH h1),bp (λe=>h2 e.symm)]
 refine⟨by rw[out 2 (by omega) (by omega)];exact I.e2,by rw[out sl (by omega) (by omega)];exact I.es,?_,λi hi=>?_,λi hi=>?_⟩
 . rw[F.off _ (pH (by omega)),nc (aA I.ed)];rcases two hb with rfl | rfl<;>rfl
 . show gQ (P i) (N+1) (if i=b then S1 else S i);by_cases z:i=b
   . rw[if_pos z,z];exact W1
   . rw[if_neg z];exact(I.W i hi).up
 . show Rep H4 (lo (n i)) (P i) (if i=b then S1 else S i) (if i=b then S1 else S i).aW;by_cases z:i=b
   . rw[if_pos z,z];exact R1
   . rw[if_neg z];refine(I.R i hi).R0 λk h1 h2=>out k ?_ ?_
     . rcases two hb with rfl | rfl<;>rcases two hi with rfl | rfl<;>omega
     . rcases two hi with rfl | rfl<;>omega
theorem Ba{H:PH}{a b:PO}(h0:H[0]?=some a)(h1:H[1]?=some b): ∃ G,H=a::b::G:=by
 match H,h0,h1 with
 | x::y::G,h0,h1=>cases h0;cases h1;exact⟨G,rfl⟩
theorem t5{it:kQ}{st:PV->PH->RV (Option PV)}{x y:PV}{xs ys:List PV}{h h1:PH}(hf:it.jt h=true)(hl:ys.length<=100)(e:st x h= .ok (some y) h1):fH it st (x::xs) ys h=fH it st xs (ys++[y]) h1:=by
 rw[P3.fH,if_pos ⟨hf,XB hl (by decide)⟩,e,cH]
theorem wW{it:kQ}{st:PV->PH->RV (Option PV)}{ys:List PV}{h:PH}(hf:it.jt h=true):fH it st [] ys h= .ok ys h:=by rw[P3.fH,if_pos hf]
theorem Inv.N{sl:Nat}{n:Nat->Nat}{P:Nat->Pg}{N:Nat}{S:Nat->Wd}{H:PH}(I:Inv sl n P N S H)(q:List PO):Inv sl n P N S (H++q) :=
 ⟨(aq (aA I.e2)).trans I.e2,(aq (aA I.es)).trans I.es,(aq (aA I.ed)).trans I.ed,I.W,λb h=>(I.R b h).app q⟩
noncomputable def N2:ME:=(ag "_law_gift" (ab (aa 1) (ab (ag "_law_row" (a3 (aa 6) (aa 7) (aa 12))) ah)))
noncomputable def N6:MS:=(b6 (AA (aM (ag "_law_is_step" (ab (aa 6) (ab (ai aw (aa 4) (ai fh (aa 5) (eI 2))) (ab (aa 7) (ab (ai aw (aa 8) (aa 10)) (ab (ai aw (aa 9) (aa 10)) ah)))))))) (ay (eC (.bl false))) cP)
noncomputable def N3:MS:=(b6 (aM (ai iV (aa 8) (bN ah))) (ae (ak (ag "_law_take" (ab (aa 1) (ab (eB cD (a1 (aa 8))) ah))) (gN 11))
  (ae (eJ dI (aa 4) (ai fh (aa 5) (eI 2)) (ai aw (ag "gone" (ab (aa 6) (ab (ai aw (aa 4) (ai fh (aa 5) (eI 2))) (ab (ai aw (aa 8) (aa 11)) (ab (ai aw (aa 9) (aa 11)) ah))))) (eI 0)))
  (cX (ag "_law_go" (ab (aa 6) (ab (aa 7) (ab (ai aw (aa 8) (aa 11)) (ab (ai aw (aa 9) (aa 11)) ah)))))))) cP)
noncomputable def Qt:MS:=(ae (ak (ai aw (aa 2) (ai fh (aa 5) (eI 2))) (gN 6))
  (ae (ak (ai aw (aa 3) (ai fh (aa 5) (eI 2))) (gN 7))
  (ae (ak (ag "_law_can" (a2 (aa 6) (aa 7))) (gN 8))
  (ae (ak (jT 1 (j7 (aa 8)) (gN 12) aP N2) (gN 9))
  (ae (jv (de (ab (eB cD (a1 (aa 8))) ah)) (gN 10) N6)
  N3)))))
theorem Cj{P:Pg}{N:Nat}{S:Wd}(W:gQ P N S){j:Nat}(m:j∈dG P S): ∃ x s c r,P.hs[j]?=some x/\S.aW[j]?=some s/\S.cA[j]?=some c/\x.2[s.row]?=some r/\cU P S j= .non/\j < P.hs.length:=by
 have mj:=VL.mp m;have hj:j < P.hs.length:=Wm.mp mj.1;have hw:cU P S j= .non:=by simpa using mj.2
 obtain⟨x,s,c,ex,es,ec,so⟩:=l9 W hj;cases e:x.2[s.row]? with
 | some r=>exact⟨x,s,c,r,ex,es,ec,e,hw,hj⟩
 | none =>
  unfold cU at hw
  rw[eV ex es,e] at hw
  exact nomatch hw
section
variable{pg:Tb}(T:cb pg)
include T
theorem DU{sl:Nat}{n:Nat->Nat}{P:Nat->Pg}(g:IC sl n P){N:Nat}{S:Nat->Wd}{fr:PO}{b:Nat}(hb:b < 2){c:Nat}{cs:List PV}(e0 e2 e3 e4 e5 e8 e9 e10 e11:Option PV): ∀(js:List Nat),(∀ j∈js,j∈dG (P b) (S b))-> ∀(ys:List PV)(q:Int × Int × Int)(G:PH),ys.length+js.length<=1000->1 < c->(fr::aU q::G)[c]?=some (.lst cs)->Inv sl n P N S (fr::aU q::G) ->
  ∃(gs:List PV)(q':Int × Int × Int),gs.length=js.length/\(∀(i j:Nat),js[i]?=some j-> ∃ gf l S1,gs[i]?=some gf/\Hl (P b) (S b) j gf l S1) /\
   fH ⟨some c,cs⟩ (aQ 1 (gN 12) aP N2 (run pg 24) [e0,some (.ref 1),e2,e3,e4,e5,some (P b).v,some (.ref (n b)),e8,e9,e10,e11]) (js.map gE) ys (fr::aU q::G)= .ok (ys++gs) (fr::aU q'::G):=by
 intro js
 induction js with
 | nil=>intro _ ys q G _ _ hc _;exact⟨[],q,rfl,λi j e=>(nomatch e),by rw[UU,wW (c7 hc),U3]⟩
 | cons j js ih =>
  intro hj ys q G hl c1 hc I
  rw[Um] at hl
  have ok:=g.ok b hb
  have W:=I.W b hb
  obtain⟨x,s,cc,r,ex,es,ec,er,hw,lj⟩:=Cj W (hj j Uv)
  obtain⟨l1,l2,l3⟩:=dR (ok.hd x (Uq ex))
  obtain⟨gf,q1,hg,eg⟩:=vx T 22 fr q (l3 r (Uq er))
  have ro:=kj T 23 W (I.R b hb).cells lj
  rw[eV ex es,er] at ro
  have ro':run pg 24 "_law_row" [(P b).v,.ref (n b),gE j] (fr::aU q::G)= .ok (br r) (fr::aU q::G):=ro
  have eg':run pg 24 "_law_gift" [.ref 1,br r] (fr::aU q::G)= .ok gf (fr::aU q1::G):=eg G
  have hc1:(fr::aU q1::G)[c]?=some (.lst cs):=by
   obtain⟨k,rfl⟩: ∃ k,c=k+1+1:=⟨c - 2,by omega⟩
   exact hc
  obtain⟨gs,q',h1,h2,h3⟩:=ih (λz m=>hj z (Uz _ m)) (ys++[gf]) q1 G (by simp;omega) c1 hc1 (I.box g)
  refine⟨gf::gs,q',by rw[Um,Um,h1],λi z e=>?_,?_⟩
  . cases i with
    | zero =>
     have:j=z:=Vg e
     subst this
     exact⟨gf,_,_,rfl,⟨x,s,cc,r,ex,es,ec,er,hw,hg,rfl,rfl⟩⟩
    | succ i=>exact h2 i z e
  have st:aQ 1 (gN 12) aP N2 (run pg 24) [e0,some (.ref 1),e2,e3,e4,e5,some (P b).v,some (.ref (n b)),e8,e9,e10,e11] (gE j) (fr::aU q::G)= .ok (some gf) (fr::aU q1::G):=by
   generalize fr::aU q1::G=K1 at eg';generalize fr::aU q::G=K0 at eg' ro';simp? [N2,ro',eg']
  have hz:ys.length<=1000:=by omega
  rw[Ul,P3.fH,if_pos ⟨c7 hc,Ut (show ys.length < 1001 by omega) (by decide)⟩,st,cH]
  refine h3.trans ?_
  simp
theorem BL{sl:Nat}{n:Nat->Nat}{P:Nat->Pg}(g:IC sl n P){N:Nat}(N9:N<=50){S:Nat->Wd}{H:PH}(I:Inv sl n P N S H){b:Nat}(hb:b < 2){k:Int}(kb:k % 2=(b:Int)){c d:Nat}{js:List Nat}{gs:List PV}(hc:H[c]?=some (.lst (js.map gE)))(hd:H[d]?=some (.lst gs))(hs: ∀(i j:Nat),js[i]?=some j-> ∃ gf l S1,gs[i]?=some gf/\Hl (P b) (S b) j gf l S1)(xs0:List PV)(e0 e1 e2 e3 e11:Option PV): ∀(aj:List Nat),(∀ i∈aj,i < js.length)-> ∀ e10:Option PV,∃ f10:Option PV,
  bJ ⟨none,xs0⟩ (bA (gN 10) N6 (run pg 24)) (aj.map λi:Nat=>PV.int (0+(i:Int))) [e0,e1,e2,e3,some (.ref (sl+1)),some (.int k),some (P b).v,some (.ref (n b)),some (.ref c),some (.ref d),e10,e11] H= .ok (.nx [e0,e1,e2,e3,some (.ref (sl+1)),some (.int k),some (P b).v,some (.ref (n b)),some (.ref c),some (.ref d),f10,e11]) H:=by
 have a4:aw (.ref (sl+1)) (.int (b:Int)) H= .ok (aS (S b)) H:=by rw[jk,I.ed,lF,uv (f:=λi=>aS (S i)) hb];rfl
 have km: ∀ h,fh (.int k) (.int 2) h= .ok (.int (b:Int)) h:=λh=>by rw[oA (by omega),kb]
 intro aj
 induction aj with
 | nil=>exact λ_ e10=>⟨e10,fZ⟩
 | cons i aj ih =>
  intro hi e10
  have iz:(0:Int)+(i:Int)=(i:Int):=XU _
  have li:=hi i Uv
  obtain⟨j,ej⟩: ∃ j,js[i]?=some j:=⟨_,Ur li⟩
  obtain⟨gf,l,S1,eg,st⟩:=hs i j ej
  have is_:=xp T 10 H (g.ok b hb) (I.W b hb) (by omega) (I.R b hb) st
  have is':run pg 24 "_law_is_step" [(P b).v,aS (S b),.ref (n b),gE j,gf] H= .ok (.bl true) H:=is_
  have x1:aw (.ref c) (.int (i:Int)) H= .ok (gE j) H:=by rw[jk,hc,lF,bE (f:=gE) ej];rfl
  have x2:aw (.ref d) (.int (i:Int)) H= .ok gf H:=by rw[jk,hd,lF,P3.cZ rfl eg];rfl
  obtain⟨f10,h⟩:=ih (λz m=>hi z (Uz _ m)) (some (.int i))
  refine⟨f10,?_⟩
  have s1:bA (gN 10) N6 (run pg 24) (.int (i:Int)) [e0,e1,e2,e3,some (.ref (sl+1)),some (.int k),some (P b).v,some (.ref (n b)),some (.ref c),some (.ref d),e10,e11] H= .ok (.nx [e0,e1,e2,e3,some (.ref (sl+1)),some (.int k),some (P b).v,some (.ref (n b)),some (.ref c),some (.ref d),some (.int i),e11]) H:=by
   simp? [N6,km,a4,x1,x2,is']
  rw[Ul,dh,iz,s1,cB,bS]
  exact h
end
section
variable{pg:Tb}(T:cb pg)
include T
theorem Pn{sl:Nat}{n:Nat->Nat}{P:Nat->Pg}(g:IC sl n P){N:Nat}(N9:N<=50){S:Nat->Wd}{fr:PO}{q:Int × Int × Int}{G:PH}(I:Inv sl n P N S (fr::aU q::G)){k:Int}{b:Nat}(hb:b < 2)(kb:k % 2=(b:Int)){c d:Nat}{gs:List PV}(hc:(fr::aU q::G)[c]?=some (.lst ((dG (P b) (S b)).map gE)))(hd:(fr::aU q::G)[d]?=some (.lst gs))(lc:sl+1 < c)(ld:sl+1 < d)(hs: ∀(i j:Nat),(dG (P b) (S b))[i]?=some j-> ∃ gf l S1,gs[i]?=some gf/\Hl (P b) (S b) j gf l S1)(e0 e2 e3 e10 e11:Option PV) :
  ∃(S':Nat->Wd)(q':Int × Int × Int)(G':PH)(f11:Option PV),Inv sl n P (N+1) S' (fr::aU q'::G') /\
   N3 (run pg 24) [e0,some (.ref 1),e2,e3,some (.ref (sl+1)),some (.int k),some (P b).v,some (.ref (n b)),some (.ref c),some (.ref d),e10,e11] (fr::aU q::G)= .ok (.nx [e0,some (.ref 1),e2,e3,some (.ref (sl+1)),some (.int k),some (P b).v,some (.ref (n b)),some (.ref c),some (.ref d),e10,f11]) (fr::aU q'::G'):=by
 have ok:=g.ok b hb;have W:=I.W b hb;have hm:=ok.many;have km: ∀ h,fh (.int k) (.int 2) h= .ok (.int (b:Int)) h:=λh=>by rw[oA (by omega),kb]
 let cs:=(dG (P b) (S b)).map gE
 obtain⟨ds,d1,d2⟩:=Pb (dG (P b) (S b));obtain⟨H,hH⟩: ∃ H,H=fr::aU q::G:=⟨_,rfl⟩
 rw[<- hH] at I hc hd ⊢;have gs_:=g.s;have gn0:=g.n0;have gn1:=g.n1;have nb:3<=n b/\n b+7+3*(P b).hs.length<=sl:=by rcases two hb with rfl | rfl<;>omega
 have hc':(H++[PO.lst []])[c]?=some (.lst cs):=(aq (aA hc)).trans hc;have hd':(H++[PO.lst []])[d]?=some (.lst gs):=(aq (aA hd)).trans hd;have ne:=FA (h:=H++[.lst []]) (n:=c) (m:=H.length) hc' bM d1 d2;by_cases z:cs=[]
 . refine⟨S,q,G++[.lst []],e11,?_,?_⟩
   . have:=I.up [.lst []];rw[hH] at this;exact this
   . have dt:decide (cs=[])=true:=decide_eq_true z;have ne':iV (.ref c) (.ref H.length) (H++[.lst []])= .ok (.bl false) (H++[.lst []]):=by rw[ne,dt];rfl
     have e:fr::aU q::(G++[.lst []])=H++[.lst []]:=by rw[hH];rfl
     rw[e];simp? [N3,ne']
 . have hcn:dG (P b) (S b)≠[]:=λe=>z (by show Zw _ _=_;rw[e];rfl);have lc0:0 < (dG (P b) (S b)).length:=aaC.mpr hcn;have lc4:(dG (P b) (S b)).length<=4:=by
    unfold dG;exact UO (W7 _ _) (by rw[WH];omega)
   obtain⟨v,q1,v0,v1,ev⟩:=cC T 23 fr q (dG (P b) (S b)).length (by omega) (by omega);obtain⟨vn,rfl⟩:=Vw v0;have vl:vn < (dG (P b) (S b)).length:=by omega
   obtain⟨j,ej⟩: ∃ j,(dG (P b) (S b))[vn]?=some j:=⟨_,Ur vl⟩
   obtain⟨gf,l,S1,eg,st⟩:=hs vn j ej;obtain⟨x,s,cc,r,ex,es,ec,er,hw,hg,eS,el⟩:=st.at_;obtain⟨K1,hK1⟩: ∃ K,K=fr::aU q1::(G++[.lst []]):=⟨_,rfl⟩
   have e1:H++[.lst []]=fr::aU q::(G++[.lst []]):=by rw[hH];rfl
   have off: ∀ i,1 < i->K1[i]?=(H++[PO.lst []])[i]?:=λi hi=>by
    obtain⟨k,rfl⟩: ∃ k,i=k+1+1:=⟨i - 2,by omega⟩
    rw[hK1,e1];rfl
   have I1:Inv sl n P N S K1:=by
    have:=I.N [.lst []];rw[e1] at this;rw[hK1];exact this.box g
   let K2:=K1.set (sl+1) (.lst ([aS (S 0),aS (S 1)].set b (aS S1)))
   have R2:Rep K2 (lo (n b)) (P b) (S b) (S b).aW:=(I1.R b hb).R0 λi h1 h2=>bp (by omega);obtain⟨K4,F4,R4,go⟩:=rC T 13 ok W (by omega) R2 ex es ec er hw hg;rw[<- eS] at R4;have I4:=Q3 g I1 hb F4 (st.ok ok W) R4;obtain⟨G4,hG4⟩:=Ba (H:=K4) (a:=fr) (b:=aU q1) (by rw[F4.off 0 (pH (by omega))];show(K1.set _ _)[0]?=_;rw[bp (by omega),hK1];rfl) (by rw[F4.off 1 (pH (by omega))];show(K1.set _ _)[1]?=_;rw[bp (by omega),hK1];rfl);refine⟨_,q1,G4,some (.int (vn:Int)),by rw[<- hG4];exact I4,?_⟩;have gn:=yX T 11 K1 ok W (by omega) ex es ec er hw hg;rw[<- eS,<- el] at gn;have gn':run pg 24 "gone" [(P b).v,aS (S b),gE j,gf] K1= .ok (.tup [aS S1,l]) K1:=gn;have go':run pg 24 "_law_go" [(P b).v,.ref (n b),gE j,gf] K2= .ok l K4:=by rw[el];exact go
   have ev':run pg 24 "_law_take" [.ref 1,.int ((dG (P b) (S b)).length:Int)] (H++[.lst []])= .ok (.int (vn:Int)) K1:=by rw[e1,hK1];exact ev _
   have ln:cD [.ref c] (H++[.lst []])= .ok (.int ((dG (P b) (S b)).length:Int)) (H++[.lst []]):=by rw[CB,hc',xY];show RV.ok (PV.int ((Zw gE (dG (P b) (S b))).length:Int)) _=_;rw[Ui]
   have c1:K1[c]?=some (.lst cs):=by rw[off c (by omega)];exact hc'
   have d1':K1[d]?=some (.lst gs):=by rw[off d (by omega)];exact hd'
   have x1:aw (.ref c) (.int (vn:Int)) K1= .ok (gE j) K1:=by rw[jk,c1,lF,bE (f:=gE) ej];rfl
   have x2:aw (.ref d) (.int (vn:Int)) K1= .ok gf K1:=by rw[jk,d1',lF,P3.cZ rfl eg];rfl
   have c2:K2[c]?=some (.lst cs):=by show(K1.set _ _)[c]?=_;rw[bp (by omega)];exact c1
   have d2':K2[d]?=some (.lst gs):=by show(K1.set _ _)[d]?=_;rw[bp (by omega)];exact d1'
   have y1:aw (.ref c) (.int (vn:Int)) K2= .ok (gE j) K2:=by rw[jk,c2,lF,bE (f:=gE) ej];rfl
   have y2:aw (.ref d) (.int (vn:Int)) K2= .ok gf K2:=by rw[jk,d2',lF,P3.cZ rfl eg];rfl
   have a4:aw (.ref (sl+1)) (.int (b:Int)) K1= .ok (aS (S b)) K1:=by rw[jk,I1.ed,lF,uv (f:=λi=>aS (S i)) hb];rfl
   have pu:dI (.ref (sl+1)) (.int (b:Int)) (aS S1) K1= .ok () K2:=by rw[Cf,I1.ed,lM rfl (by simpa using hb)]
   have dt:decide (cs=[])=false:=decide_eq_false z;have ne':iV (.ref c) (.ref H.length) (H++[.lst []])= .ok (.bl true) (H++[.lst []]):=by rw[ne,dt];rfl
   rw[<- hG4]
   clear_value cs K2
   simp? [N3,ne',ln,ev',km,a4,x1,x2,gn',↓pu,y1,y2,go']
theorem BS{sl:Nat}{n:Nat->Nat}{P:Nat->Pg}(g:IC sl n P){N:Nat}(N9:N<=50){S:Nat->Wd}{fr:PO}{q:Int × Int × Int}{G:PH}(I:Inv sl n P N S (fr::aU q::G)){k:Int}{b:Nat}(hb:b < 2)(kb:k % 2=(b:Int))(e0 e5 e6 e7 e8 e9 e10 e11:Option PV) :
  ∃(S':Nat->Wd)(q':Int × Int × Int)(G':PH)(f6 f7 f8 f9 f10 f11:Option PV),Inv sl n P (N+1) S' (fr::aU q'::G') /\
   bA (gN 5) Qt (run pg 24) (.int k) [e0,some (.ref 1),some (.ref 2),some (.ref sl),some (.ref (sl+1)),e5,e6,e7,e8,e9,e10,e11] (fr::aU q::G)= .ok (.nx [e0,some (.ref 1),some (.ref 2),some (.ref sl),some (.ref (sl+1)),some (.int k),f6,f7,f8,f9,f10,f11]) (fr::aU q'::G'):=by
 have ok:=g.ok b hb;have W:=I.W b hb;have hm:=ok.many;have km: ∀ h,fh (.int k) (.int 2) h= .ok (.int (b:Int)) h:=λh=>by rw[oA (by omega),kb]
 have IK:=wV T 21 ok W (I.R b hb).cells
 let cs:=(dG (P b) (S b)).map gE
 obtain⟨H,hH⟩: ∃ H,H=fr::aU q::G:=⟨_,rfl⟩
 rw[<- hH] at IK;have can':run pg 24 "_law_can" [(P b).v,.ref (n b)] H= .ok (.ref H.length) (H++[.lst cs]):=IK;have a2:aw (.ref 2) (.int (b:Int)) H= .ok (P b).v H:=by rw[hH,jk,I.e2,lF,uv (f:=λi=>(P i).v) hb];rfl
 have a3:aw (.ref sl) (.int (b:Int)) H= .ok (.ref (n b)) H:=by rw[hH,jk,I.es,lF,uv (f:=λi=>PV.ref (n i)) hb];rfl
 have lH:=aA I.ed;rw[<- hH] at lH;have hz:(dG (P b) (S b)).length<=4:=by
  unfold dG;exact UO (W7 _ _) (by rw[WH];omega)
 have I1:Inv sl n P N S (fr::aU q::(G++[.lst cs])):=I.N [.lst cs];have hc1:(fr::aU q::(G++[PO.lst cs]))[H.length]?=some (.lst cs):=by
  have:(H++[PO.lst cs])[H.length]?=some (.lst cs):=bM;rw[hH] at this;rw[hH];exact this
 obtain⟨gs,q1,l1,l2,l3⟩:=DU T g (N:=N) hb (c:=H.length) (cs:=cs) e0 (some (.ref 2)) (some (.ref sl)) (some (.ref (sl+1))) (some (.int k)) (some (.ref H.length)) e9 e10 e11 (dG (P b) (S b)) (λ_ m=>m) [] q (G++[.lst cs]) (by simp;omega) (by omega) hc1 I1;rw[UR] at l3;obtain⟨K1,hK1⟩: ∃ K,K=fr::aU q1::(G++[.lst cs]):=⟨_,rfl⟩
 have lK:K1.length=H.length+1:=by rw[hK1,hH];simp
 have l3':fH ⟨some H.length,cs⟩ (aQ 1 (gN 12) aP N2 (run pg 24) [e0,some (.ref 1),some (.ref 2),some (.ref sl),some (.ref (sl+1)),some (.int k),some (P b).v,some (.ref (n b)),some (.ref H.length),e9,e10,e11]) cs [] (H++[.lst cs])= .ok gs K1:=by
  have e:H++[.lst cs]=fr::aU q::(G++[.lst cs]):=by rw[hH];rfl
  rw[e,hK1];exact l3
 have I2:Inv sl n P N S (K1++[.lst gs]):=by
  rw[hK1];exact(I1.box g).N [.lst gs]
 have c2:(K1++[PO.lst gs])[H.length]?=some (.lst cs):=by
  refine(aq (by omega)).trans ?_;rw[hK1];obtain⟨t,ht⟩: ∃ t,H.length=t+1+1:=⟨H.length - 2,by omega⟩
  rw[ht] at hc1 ⊢;exact hc1
 have d2:(K1++[PO.lst gs])[H.length+1]?=some (.lst gs):=by rw[<- lK];exact bM
 obtain⟨f10,lp⟩:=BL T g N9 I2 hb kb (js:=dG (P b) (S b)) c2 d2 l2 (aE 0 (dG (P b) (S b)).length) e0 (some (.ref 1)) (some (.ref 2)) (some (.ref sl)) e11 (Vn (dG (P b) (S b)).length) (λi m=>Wm.mp m) e10;have e2:K1++[.lst gs]=fr::aU q1::(G++[.lst cs]++[.lst gs]):=by rw[hK1];rfl
 obtain⟨S',q',G',f11,I',on⟩:=Pn T g N9 (G:=G++[.lst cs]++[.lst gs]) (by rw[<- e2];exact I2) hb kb (c:=H.length) (d:=H.length+1) (gs:=gs) (by rw[<- e2];exact c2) (by rw[<- e2];exact d2) (by omega) (by omega) l2 e0 (some (.ref 2)) (some (.ref sl)) f10 e11;rw[<- e2] at on;refine⟨S',q',G',some (P b).v,some (.ref (n b)),some (.ref H.length),some (.ref (H.length+1)),f10,f11,I',?_⟩;rw[<- hH];have it:nT (.ref H.length) (H++[.lst cs])= .ok ⟨some H.length,cs⟩ (H++[.lst cs]):=by rw[tQ,bM,tO]
 have ln:cD [.ref H.length] (K1++[.lst gs])= .ok (.int ((dG (P b) (S b)).length:Int)) (K1++[.lst gs]):=by rw[CB,c2,xY];show RV.ok (PV.int ((Zw gE (dG (P b) (S b))).length:Int)) _=_;rw[Ui]
 have tt:YB (((dG (P b) (S b)).length:Nat):Int)=(dG (P b) (S b)).length:=Vr _;rw[<- lK] at lp on ⊢;have lp':bJ ⟨none,aE 0 (dG (P b) (S b)).length⟩ (bA (gN 10) N6 (run pg 24)) (aE 0 (dG (P b) (S b)).length) [e0,some (.ref 1),some (.ref 2),some (.ref sl),some (.ref (sl+1)),some (.int k),some (P b).v,some (.ref (n b)),some (.ref H.length),some (.ref K1.length),e10,e11] (K1++[.lst gs])= .ok (.nx [e0,some (.ref 1),some (.ref 2),some (.ref sl),some (.ref (sl+1)),some (.int k),some (P b).v,some (.ref (n b)),some (.ref H.length),some (.ref K1.length),f10,e11]) (K1++[.lst gs]):=lp;show(gN 5 (.int k) _ H).bind (Qt (run pg 24))=_;rw[IF,cB];show Qt (run pg 24) [e0,some (.ref 1),some (.ref 2),some (.ref sl),some (.ref (sl+1)),some (.int k),e6,e7,e8,e9,e10,e11] H=_;show ae _ (ae _ (ae _ (ae _ (ae _ N3)))) _ _ _=_;refine(aT (e1:=[e0,some (.ref 1),some (.ref 2),some (.ref sl),some (.ref (sl+1)),some (.int k),some (P b).v,e7,e8,e9,e10,e11]) (h1:=H) ?_).trans ?_
 . simp? [km,a2]
 refine(aT (e1:=[e0,some (.ref 1),some (.ref 2),some (.ref sl),some (.ref (sl+1)),some (.int k),some (P b).v,some (.ref (n b)),e8,e9,e10,e11]) (h1:=H) ?_).trans ?_
 . simp? [km,a3]
 refine(aT (e1:=[e0,some (.ref 1),some (.ref 2),some (.ref sl),some (.ref (sl+1)),some (.int k),some (P b).v,some (.ref (n b)),some (.ref H.length),e9,e10,e11]) (h1:=H++[.lst cs]) ?_).trans ?_
 . simp? [can']
 refine(aT (e1:=[e0,some (.ref 1),some (.ref 2),some (.ref sl),some (.ref (sl+1)),some (.int k),some (P b).v,some (.ref (n b)),some (.ref H.length),some (.ref K1.length),e10,e11]) (h1:=K1++[.lst gs]) ?_).trans ?_
 . clear_value cs
   generalize H++[PO.lst cs]=Z at it l3';simp? [it,l3']
 refine(aT (e1:=[e0,some (.ref 1),some (.ref 2),some (.ref sl),some (.ref (sl+1)),some (.int k),some (P b).v,some (.ref (n b)),some (.ref H.length),some (.ref K1.length),f10,e11]) (h1:=K1++[.lst gs]) ?_).trans on;generalize K1++[PO.lst gs]=Z at ln lp';simp? [↓m7,↓oF,↓lZ,jU,jM,↓OH,↓Ii,D9,↓wI,ug,↓sP,lQ,cB,jV,ln,tt,lp']
theorem BN{sl:Nat}{n:Nat->Nat}{P:Nat->Pg}(g:IC sl n P)(xs0:List PV)(e0:Option PV){fr:PO}: ∀(aj:List Nat)(N:Nat)(S:Nat->Wd)(q:Int × Int × Int)(G:PH)(e5 e6 e7 e8 e9 e10 e11:Option PV),N+aj.length<=50->Inv sl n P N S (fr::aU q::G) ->
  ∃(N':Nat)(S':Nat->Wd)(q':Int × Int × Int)(G':PH)(f5 f6 f7 f8 f9 f10 f11:Option PV),Inv sl n P N' S' (fr::aU q'::G') /\
   bJ ⟨none,xs0⟩ (bA (gN 5) Qt (run pg 24)) (aj.map λi:Nat=>PV.int (0+(i:Int))) [e0,some (.ref 1),some (.ref 2),some (.ref sl),some (.ref (sl+1)),e5,e6,e7,e8,e9,e10,e11] (fr::aU q::G)= .ok (.nx [e0,some (.ref 1),some (.ref 2),some (.ref sl),some (.ref (sl+1)),f5,f6,f7,f8,f9,f10,f11]) (fr::aU q'::G'):=by
 intro aj
 induction aj with
 | nil=>intro N S q G e5 e6 e7 e8 e9 e10 e11 _ I;exact⟨N,S,q,G,e5,e6,e7,e8,e9,e10,e11,I,fZ⟩
 | cons i aj ih =>
  intro N S q G e5 e6 e7 e8 e9 e10 e11 hN I
  rw[Um] at hN
  have iz:(0:Int)+(i:Int)=(i:Int):=XU _
  obtain⟨S1,q1,G1,f6,f7,f8,f9,f10,f11,I1,st⟩:=BS T g (by omega) I (k:=(i:Int)) (b:=i % 2) (Nat.mod_lt _ (by decide)) (by omega) e0 e5 e6 e7 e8 e9 e10 e11
  obtain⟨N',S',q',G',h5,h6,h7,h8,h9,h10,h11,I',lp⟩:=ih (N+1) S1 q1 G1 (some (.int i)) f6 f7 f8 f9 f10 f11 (by omega) I1
  refine⟨N',S',q',G',h5,h6,h7,h8,h9,h10,h11,I',?_⟩
  rw[Ul,dh,iz,st,cB,bS]
  exact lp
end
theorem Ep: ∀ ns:List Int,ns.length<=63->Ok (run tb (room+1) "law" [.ref 0] [.kR (ns.map PV.int)]) λv _=>v= .bl true:=by
 intro ns hn;have T:cb tb:=has;show Ok (run tb (24+1) "law" [.ref 0] [qH ns]) _;obtain⟨q0,bx⟩:=Ms T 23 ns hn;obtain⟨b1,s11,s12,s13,h1,p1,q1,D1,e1⟩:=pZ T 17 (qH ns) q0 [];obtain⟨b2,s21,s22,s23,h2,p2,q2,D2,e2⟩:=pZ T 17 (qH ns) q1 [];obtain⟨rfl,ok1⟩:=D1.pg;obtain⟨rfl,ok2⟩:=D2.pg;obtain⟨P1,hP1⟩: ∃ P,P=Pg.mk b1 s11 s12 s13 h1:=⟨_,rfl⟩
 obtain⟨P2,hP2⟩: ∃ P,P=Pg.mk b2 s21 s22 s23 h2:=⟨_,rfl⟩
 rw[<- hP1] at ok1 e1;rw[<- hP2] at ok2 e2
 let H0:PH:=[qH ns,aU q2,.lst [P1.v,P2.v]]
 obtain⟨X1,l1,R1,f1⟩:=l7 T 13 H0 ok1;obtain⟨X2,l2,R2,f2⟩:=l7 T 13 (H0++X1) ok2
 let n:Nat->Nat:=λb=>if b=0 then 3 else 3+7+3*P1.hs.length
 let P:Nat->Pg:=λb=>if b=0 then P1 else P2
 let S0:Nat->Wd:=λb=>iH (P b)
 let sl:Nat:=3+7+3*P1.hs.length+7+3*P2.hs.length
 have geo:IC sl n P:=⟨rfl,rfl,rfl,λb h=>(two h).elim (λe=>by rw[e];exact ok1) (λe=>by rw[e];exact ok2)⟩
 let H1:PH:=H0++X1++X2
 have lH0:(H0++X1).length=3+7+3*P1.hs.length:=by rw[Uu,l1];simp[H0];omega
 have lH1:H1.length=sl:=by show(H0++X1++X2).length=_;rw[Uu,lH0,l2];simp only[sl];omega
 let d1:PV:=aS (iH P1)
 let d2:PV:=aS (iH P2)
 let H2:PH:=H1++[.lst [.ref (n 0),.ref (n 1)],.lst [d1,d2]]
 have I0:Inv sl n P 0 S0 H2:=by
  refine⟨rfl,?_,?_,λb h=>?_,λb h=>?_⟩
  . rw[<- lH1];exact bM
  . rw[<- lH1];show(H1++_)[_]?=_;rw[bo];rfl
  . rcases two h with rfl | rfl
    . exact yw ok1
    . exact yw ok2
  . rcases two h with rfl | rfl
    . have:=(R1.app X2).app [.lst [.ref (n 0),.ref (n 1)],.lst [d1,d2]];exact this
    . have:=R2.app [.lst [.ref (n 0),.ref (n 1)],.lst [d1,d2]];rw[lH0] at this;exact this
 obtain⟨t,q3,t0,t1,et⟩:=cC T 23 (qH ns) q2 14 (by decide) (by decide)
 let G0:PH:= .lst [P1.v,P2.v]::(X1++(X2++[.lst [.ref (n 0),.ref (n 1)],.lst [d1,d2]]))
 have hH2:H2=qH ns::aU q2::G0:=by simp[H2,H1,H0,G0]
 have I1:Inv sl n P 0 S0 (qH ns::aU q3::G0):=by
  rw[hH2] at I0;exact I0.box geo
 obtain⟨tn,rfl⟩:=Vw t0;obtain⟨N',S',q',G',g5,g6,g7,g8,g9,g10,g11,I',lp⟩:=BN T geo (aE 0 (2*(1+tn))) (some (.ref 0)) (Vn (2*(1+tn))) 0 S0 q3 G0 none none none none none none none (by rw[WH];omega) I1;have c2:fH ⟨some 2,[P1.v,P2.v]⟩ (aQ 1 (gN 12) aP (ag "_law_first" (a1 (aa 12))) (run tb 24) [some (.ref 0),some (.ref 1),some (.ref 2),none,none,none,none,none,none,none,none,none]) [P1.v,P2.v] [] H0= .ok [.ref (n 0),.ref (n 1)] H1:=by
  have st2:aQ 1 (gN 12) aP (ag "_law_first" (a1 (aa 12))) (run tb 24) [some (.ref 0),some (.ref 1),some (.ref 2),none,none,none,none,none,none,none,none,none] P2.v (H0++X1)= .ok (some (.ref (n 1))) (H0++X1++X2):=by
   rw[lH0] at f2;have f2':run tb 24 "_law_first" [P2.v] (H0++X1)= .ok (.ref (n 1)) (H0++X1++X2):=f2;generalize H0++X1=K at f2';generalize K++X2=V at f2';simp? [f2']
  have f1':run tb 24 "_law_first" [P1.v] H0= .ok (.ref (n 0)) (H0++X1):=f1;rw[t5 (y:= .ref (n 0)) (h1:=H0++X1) (c7 rfl) (by simp) (by
   generalize H0++X1=K at f1';generalize H0=L at f1';simp? [f1']),t5 (y:= .ref (n 1)) (h1:=H1) (c7 rfl) (by simp) st2,wW (c7 rfl)]
  rfl
 have c3:fH ⟨some 2,[P1.v,P2.v]⟩ (aQ 1 (gN 12) aP (ag "first_stand" (a1 (aa 12))) (run tb 24) [some (.ref 0),some (.ref 1),some (.ref 2),some (.ref sl),none,none,none,none,none,none,none,none]) [P1.v,P2.v] [] (H1++[.lst [.ref (n 0),.ref (n 1)]])= .ok [d1,d2] (H1++[.lst [.ref (n 0),.ref (n 1)]]):=by
  have s1:=λg=>je T 12 g ok1;have s2:=λg=>je T 12 g ok2;have fi:kQ.jt ⟨some 2,[P1.v,P2.v]⟩ (H1++[.lst [.ref (n 0),.ref (n 1)]])=true:=c7 rfl;generalize H1++[PO.lst [.ref (n 0),.ref (n 1)]]=K at fi;rw[t5 (y:=d1) (h1:=K) fi (by simp) (by simp? [s1,d1]),t5 (y:=d2) (h1:=K) fi (by simp) (by simp? [s2,d2]),wW fi];rfl
 have A: ∃ Z:PH,BJ (run tb 24) [some (.ref 0),none,none,none,none,none,none,none,none,none,none,none] [qH ns]= .ok (.rt (.bl true)) Z:=by
  refine⟨qH ns::aU q'::G',?_⟩;show ae _ (ae _ (ae _ (ae _ (ae _ _)))) _ _ _=_;refine(aT (e1:=[some (.ref 0),some (.ref 1),none,none,none,none,none,none,none,none,none,none]) (h1:=[qH ns,aU q0]) ?_).trans ?_
  . simp? [bx]
  refine(aT (e1:=[some (.ref 0),some (.ref 1),some (.ref 2),none,none,none,none,none,none,none,none,none]) (h1:=H0) ?_).trans ?_
  . simp? [e1,e2];rfl
  refine(aT (e1:=[some (.ref 0),some (.ref 1),some (.ref 2),some (.ref sl),none,none,none,none,none,none,none,none]) (h1:=H1++[.lst [.ref (n 0),.ref (n 1)]]) ?_).trans ?_
  . have z0:nT (.ref 2) H0= .ok ⟨some 2,[P1.v,P2.v]⟩ H0:=rfl;rw[<- lH1];generalize n 0=n0 at c2;generalize n 1=n1 at c2;generalize H1=L at c2;generalize H0=K at z0 c2;simp? [z0,c2]
  refine(aT (e1:=[some (.ref 0),some (.ref 1),some (.ref 2),some (.ref sl),some (.ref (sl+1)),none,none,none,none,none,none,none]) (h1:=H2) ?_).trans ?_
  . have z0:nT (.ref 2) (H1++[.lst [.ref (n 0),.ref (n 1)]])= .ok ⟨some 2,[P1.v,P2.v]⟩ (H1++[.lst [.ref (n 0),.ref (n 1)]]):=rfl;have l2':(H1++[PO.lst [.ref (n 0),.ref (n 1)]]).length=sl+1:=by rw[Uu,lH1];rfl
    have hh:H2=H1++[.lst [.ref (n 0),.ref (n 1)]]++[.lst [d1,d2]]:=by show H1++[PO.lst [.ref (n 0),.ref (n 1)],.lst [d1,d2]]=_;generalize H1=K;simp
    rw[hh,<- l2'];generalize H1++[PO.lst [.ref (n 0),.ref (n 1)]]=K at z0 c3
    clear_value d1 d2
    simp? [z0,c3]
  rw[hH2];refine(aT (e1:=[some (.ref 0),some (.ref 1),some (.ref 2),some (.ref sl),some (.ref (sl+1)),g5,g6,g7,g8,g9,g10,g11]) (h1:=qH ns::aU q'::G') ?_).trans ?_
  . have tk:run tb 24 "_law_take" [.ref 1,.int 14] (qH ns::aU q2::G0)= .ok (.int (tn:Int)) (qH ns::aU q3::G0):=et G0;have tt:YB (2*(1+(tn:Int)))=2*(1+tn):=by omega
    unfold Qt N2 N6 N3 at lp
    clear_value G0
    simp? [↓m7,↓oF,↓lZ,jU,jM,↓IG,B3,↓Od,↓zu,↓wI,ug,↓sP,lQ,cB,jV,tk,tt];exact lp
  generalize qH ns::aU q'::G'=K at *;simp? [UU]
 obtain⟨Z,A⟩:=A;rw[run_eq T.IJ rfl];show Ok (fin _ (BJ (run tb 24) [some (.ref 0),none,none,none,none,none,none,none,none,none,none,none] [qH ns])) _;rw[A,jx];unfold P3.settle;split<;>exact⟨_,_,rfl,rfl⟩
open PySem PySem.W PyProof.Rows
set_option maxHeartbeats 8000000
theorem all_mk{l:Yd}{w:World}{K:Ud}{h:Heap}{mg:Str->Option Value}{fa:Addr}(X:K.In h)(G:h.Ns UI mg)(hfa:mg "law" =some (.ref fa)){aSORTS:Addr}{nSORTS:Nat}{sSORTS:Array (Option Value)}{tSORTS0 tSORTS1 tSORTS2 tSORTS3 tSORTS4:Tok}{tWORTHS:Tok}{tMOST_OWN_ROWS:Tok}{aPOCKETING:Addr}{nPOCKETING:Nat}{sPOCKETING:Array (Option Value)}{tPOCKETING0 tPOCKETING1 tPOCKETING2 tPOCKETING3 tPOCKETING4:Tok}{tCOUNTS:Tok}{tSEATS:Tok}{aGIFTED:Addr}{nGIFTED:Nat}{sGIFTED:Array (Option Value)}{tGIFTED0 tGIFTED1 tGIFTED2:Tok}{aROW_PARTS:Addr}{eROW_PARTS:Nat}{qROW_PARTS0 qROW_PARTS1 qROW_PARTS2 qROW_PARTS3 qROW_PARTS4 qROW_PARTS5 qROW_PARTS6 qROW_PARTS7 qROW_PARTS8 qROW_PARTS9 qROW_PARTS10 qROW_PARTS11:Tok}{rROW_PARTS0:Addr}{nROW_PARTSv0_:Nat}{dROW_PARTSv0_:Option Addr}{sROW_PARTSv0_:Array (Option Value)}{tROW_PARTSv0_0 tROW_PARTSv0_1:Tok}{rROW_PARTS1:Addr}{nROW_PARTSv1_:Nat}{dROW_PARTSv1_:Option Addr}{sROW_PARTSv1_:Array (Option Value)}{tROW_PARTSv1_0 tROW_PARTSv1_1:Tok}{rROW_PARTS2:Addr}{nROW_PARTSv2_:Nat}{dROW_PARTSv2_:Option Addr}{sROW_PARTSv2_:Array (Option Value)}{tROW_PARTSv2_0 tROW_PARTSv2_1:Tok}{rROW_PARTS3:Addr}{nROW_PARTSv3_:Nat}{dROW_PARTSv3_:Option Addr}{sROW_PARTSv3_:Array (Option Value)}{tROW_PARTSv3_0 tROW_PARTSv3_1:Tok}{rROW_PARTS4:Addr}{nROW_PARTSv4_:Nat}{dROW_PARTSv4_:Option Addr}{sROW_PARTSv4_:Array (Option Value)}{tROW_PARTSv4_0:Tok}{rROW_PARTS5:Addr}{nROW_PARTSv5_:Nat}{dROW_PARTSv5_:Option Addr}{sROW_PARTSv5_:Array (Option Value)}{tROW_PARTSv5_0:Tok}{rROW_PARTS6:Addr}{nROW_PARTSv6_:Nat}{dROW_PARTSv6_:Option Addr}{sROW_PARTSv6_:Array (Option Value)}{tROW_PARTSv6_0 tROW_PARTSv6_1:Tok}{rROW_PARTS7:Addr}{nROW_PARTSv7_:Nat}{dROW_PARTSv7_:Option Addr}{sROW_PARTSv7_:Array (Option Value)}{tROW_PARTSv7_0 tROW_PARTSv7_1:Tok}{rROW_PARTS8:Addr}{nROW_PARTSv8_:Nat}{dROW_PARTSv8_:Option Addr}{sROW_PARTSv8_:Array (Option Value)}{tROW_PARTSv8_0 tROW_PARTSv8_1:Tok}{rROW_PARTS9:Addr}{nROW_PARTSv9_:Nat}{dROW_PARTSv9_:Option Addr}{sROW_PARTSv9_:Array (Option Value)}{tROW_PARTSv9_0:Tok}{rROW_PARTS10:Addr}{nROW_PARTSv10_:Nat}{dROW_PARTSv10_:Option Addr}{sROW_PARTSv10_:Array (Option Value)}{tROW_PARTSv10_0 tROW_PARTSv10_1:Tok}{rROW_PARTS11:Addr}{nROW_PARTSv11_:Nat}{dROW_PARTSv11_:Option Addr}{sROW_PARTSv11_:Array (Option Value)}{tROW_PARTSv11_0 tROW_PARTSv11_1:Tok}{aPLACE_OF:Addr}{ePLACE_OF:Nat}{qPLACE_OF0 qPLACE_OF1 qPLACE_OF2 qPLACE_OF3:Tok}{vPLACE_OF0:Tok}{vPLACE_OF1:Tok}{vPLACE_OF2:Tok}{vPLACE_OF3:Tok}{aMET_SORT:Addr}{eMET_SORT:Nat}{qMET_SORT0 qMET_SORT1 qMET_SORT2 qMET_SORT3 qMET_SORT4 qMET_SORT5 qMET_SORT6:Tok}{vMET_SORT0:Tok}{vMET_SORT1:Tok}{vMET_SORT2:Tok}{vMET_SORT3:Tok}{vMET_SORT4:Tok}{vMET_SORT5:Tok}{vMET_SORT6:Tok}
  (A0:At K mg "is_whole" (top 4))
  (A1:At K mg "is_between" (top 5))
  (A2:At K mg "is_value" (top 6))
  (A3:At K mg "worth" (top 11))
  (A4:At K mg "joined_worth" (top 12))
  (A5:At K mg "names_of" (top 14))
  (A6:At K mg "number_of" (top 15))
  (A7:At K mg "rows_of" (top 16))
  (A8:At K mg "first_seat" (top 20))
  (A9:At K mg "rested" (top 21))
  (A10:At K mg "is_rested" (top 22))
  (A11:At K mg "is_own_row" (top 23))
  (A12:At K mg "behind_own_row" (top 24))
  (A13:At K mg "laid" (top 25))
  (A14:At K mg "touch_of" (top 26))
  (A15:At K mg "seat_behind" (top 27))
  (A16:At K mg "may_come" (top 28))
  (A17:At K mg "first_stand" (top 33))
  (A18:At K mg "hands_of" (top 34))
  (A19:At K mg "state_of" (top 35))
  (A20:At K mg "wait_of" (top 36))
  (A21:At K mg "gone" (top 40))
  (A22:At K mg "due_touch" (top 41))
  (A23:At K mg "takes_gift" (top 42))
  (A24:At K mg "meeting" (top 43))
  (A25:At K mg "with_hand_on" (top 44))
  (A26:At K mg "with_state" (top 45))
  (A27:At K mg "replaced" (top 46))
  (A28:At K mg "_law_box" (top 48))
  (A29:At K mg "_law_take" (top 49))
  (A30:At K mg "_law_sum" (top 50))
  (A31:At K mg "_law_touch_row" (top 51))
  (A32:At K mg "_law_rows" (top 52))
  (A33:At K mg "_law_program" (top 53))
  (A34:At K mg "_law_worth" (top 54))
  (A35:At K mg "_law_is_own" (top 55))
  (A36:At K mg "_law_rest" (top 56))
  (A37:At K mg "_law_first" (top 57))
  (A38:At K mg "_law_stand" (top 58))
  (A39:At K mg "_law_row" (top 59))
  (A40:At K mg "_law_wait" (top 60))
  (A41:At K mg "_law_boxed" (top 61))
  (A42:At K mg "_law_locked" (top 62))
  (A43:At K mg "_law_laned" (top 63))
  (A44:At K mg "_law_go" (top 64))
  (A45:At K mg "_law_can" (top 65))
  (A46:At K mg "_law_gift" (top 66))
  (A47:At K mg "_law_copy" (top 67))
  (A48:At K mg "_law_is_step" (top 68))
  (A49:At K mg "law" (top 69))
  (z0:US K UI "len" =some none)
  (z1:US K UI "range" =some none)
  (z2:US K UI "isinstance" =some none)
  (z3:US K UI "int" =some none)
  (z4:US K UI "bool" =some none)
  (z5:US K UI "tuple" =some none)
  (z6:US K UI "dict" =some none)
  (z7:US K UI "sorted" =some none)
  (z8:US K UI "min" =some none)
  (z9:US K UI "max" =some none)
  (z10:US K UI "abs" =some none)
  (z11:US K UI "all" =some none)
  (z12:US K UI "any" =some none)
  (z13:US K UI "sum" =some none)
  (z14:US K UI "str" =some none)
  (z15:US K UI "list" =some none)
  (z16:US K UI "zip" =some none)
  (z17:US K UI "set" =some none)
  (z18:US K UI "repr" =some none)
  (z19:US K UI "enumerate" =some none)
  (wSORTS:US K UI "SORTS" =some (some (.ref aSORTS))) (oSORTS:K.lookup aSORTS=some ⟨.type "tuple",none,.seq #[.str "box" tSORTS0,.str "lock" tSORTS1,.str "lane" tSORTS2,.str "door" tSORTS3,.str "hand" tSORTS4] nSORTS,sSORTS⟩)
  (wWORTHS:US K UI "WORTHS" =some (some (.int 1000 tWORTHS)))
  (wMOST_OWN_ROWS:US K UI "MOST_OWN_ROWS" =some (some (.int 200 tMOST_OWN_ROWS)))
  (wPOCKETING:US K UI "POCKETING" =some (some (.ref aPOCKETING))) (oPOCKETING:K.lookup aPOCKETING=some ⟨.type "tuple",none,.seq #[.str "get" tPOCKETING0,.str "fetch" tPOCKETING1,.str "clock" tPOCKETING2,.str "lot" tPOCKETING3,.str "hear" tPOCKETING4] nPOCKETING,sPOCKETING⟩)
  (wCOUNTS:US K UI "COUNTS" =some (some (.int 0 tCOUNTS)))
  (wSEATS:US K UI "SEATS" =some (some (.int 1 tSEATS)))
  (wGIFTED:US K UI "GIFTED" =some (some (.ref aGIFTED))) (oGIFTED:K.lookup aGIFTED=some ⟨.type "tuple",none,.seq #[.str "clock" tGIFTED0,.str "lot" tGIFTED1,.str "hear" tGIFTED2] nGIFTED,sGIFTED⟩)
  (oROW_PARTSv0_:K.lookup rROW_PARTS0=some ⟨.type "tuple",dROW_PARTSv0_,.seq #[.str "pocket" tROW_PARTSv0_0,.str "sum" tROW_PARTSv0_1] nROW_PARTSv0_,sROW_PARTSv0_⟩)
  (oROW_PARTSv1_:K.lookup rROW_PARTS1=some ⟨.type "tuple",dROW_PARTSv1_,.seq #[.str "target" tROW_PARTSv1_0,.str "sum" tROW_PARTSv1_1] nROW_PARTSv1_,sROW_PARTSv1_⟩)
  (oROW_PARTSv2_:K.lookup rROW_PARTS2=some ⟨.type "tuple",dROW_PARTSv2_,.seq #[.str "pocket" tROW_PARTSv2_0,.str "box" tROW_PARTSv2_1] nROW_PARTSv2_,sROW_PARTSv2_⟩)
  (oROW_PARTSv3_:K.lookup rROW_PARTS3=some ⟨.type "tuple",dROW_PARTSv3_,.seq #[.str "box" tROW_PARTSv3_0,.str "sum" tROW_PARTSv3_1] nROW_PARTSv3_,sROW_PARTSv3_⟩)
  (oROW_PARTSv4_:K.lookup rROW_PARTS4=some ⟨.type "tuple",dROW_PARTSv4_,.seq #[.str "lock" tROW_PARTSv4_0] nROW_PARTSv4_,sROW_PARTSv4_⟩)
  (oROW_PARTSv5_:K.lookup rROW_PARTS5=some ⟨.type "tuple",dROW_PARTSv5_,.seq #[.str "lock" tROW_PARTSv5_0] nROW_PARTSv5_,sROW_PARTSv5_⟩)
  (oROW_PARTSv6_:K.lookup rROW_PARTS6=some ⟨.type "tuple",dROW_PARTSv6_,.seq #[.str "lane" tROW_PARTSv6_0,.str "sum" tROW_PARTSv6_1] nROW_PARTSv6_,sROW_PARTSv6_⟩)
  (oROW_PARTSv7_:K.lookup rROW_PARTS7=some ⟨.type "tuple",dROW_PARTSv7_,.seq #[.str "pocket" tROW_PARTSv7_0,.str "lane" tROW_PARTSv7_1] nROW_PARTSv7_,sROW_PARTSv7_⟩)
  (oROW_PARTSv8_:K.lookup rROW_PARTS8=some ⟨.type "tuple",dROW_PARTSv8_,.seq #[.str "door" tROW_PARTSv8_0,.str "sum" tROW_PARTSv8_1] nROW_PARTSv8_,sROW_PARTSv8_⟩)
  (oROW_PARTSv9_:K.lookup rROW_PARTS9=some ⟨.type "tuple",dROW_PARTSv9_,.seq #[.str "pocket" tROW_PARTSv9_0] nROW_PARTSv9_,sROW_PARTSv9_⟩)
  (oROW_PARTSv10_:K.lookup rROW_PARTS10=some ⟨.type "tuple",dROW_PARTSv10_,.seq #[.str "pocket" tROW_PARTSv10_0,.str "chances" tROW_PARTSv10_1] nROW_PARTSv10_,sROW_PARTSv10_⟩)
  (oROW_PARTSv11_:K.lookup rROW_PARTS11=some ⟨.type "tuple",dROW_PARTSv11_,.seq #[.str "pocket" tROW_PARTSv11_0,.str "door" tROW_PARTSv11_1] nROW_PARTSv11_,sROW_PARTSv11_⟩)
  (wROW_PARTS:US K UI "ROW_PARTS" =some (some (.ref aROW_PARTS))) (oROW_PARTS:K.lookup aROW_PARTS=some { cls:= .type "dict",data:= .dict #[{ hash:=UX w.params "let",key:= .str "let" qROW_PARTS0,val:= .ref rROW_PARTS0 },{ hash:=UX w.params "leap",key:= .str "leap" qROW_PARTS1,val:= .ref rROW_PARTS1 },{ hash:=UX w.params "get",key:= .str "get" qROW_PARTS2,val:= .ref rROW_PARTS2 },{ hash:=UX w.params "put",key:= .str "put" qROW_PARTS3,val:= .ref rROW_PARTS3 },{ hash:=UX w.params "take",key:= .str "take" qROW_PARTS4,val:= .ref rROW_PARTS4 },{ hash:=UX w.params "free",key:= .str "free" qROW_PARTS5,val:= .ref rROW_PARTS5 },{ hash:=UX w.params "send",key:= .str "send" qROW_PARTS6,val:= .ref rROW_PARTS6 },{ hash:=UX w.params "fetch",key:= .str "fetch" qROW_PARTS7,val:= .ref rROW_PARTS7 },{ hash:=UX w.params "say",key:= .str "say" qROW_PARTS8,val:= .ref rROW_PARTS8 },{ hash:=UX w.params "clock",key:= .str "clock" qROW_PARTS9,val:= .ref rROW_PARTS9 },{ hash:=UX w.params "lot",key:= .str "lot" qROW_PARTS10,val:= .ref rROW_PARTS10 },{ hash:=UX w.params "hear",key:= .str "hear" qROW_PARTS11,val:= .ref rROW_PARTS11 }] eROW_PARTS }) (yROW_PARTS:(aROW_PARTS == Vx)=false)
  (wPLACE_OF:US K UI "PLACE_OF" =some (some (.ref aPLACE_OF))) (oPLACE_OF:K.lookup aPLACE_OF=some { cls:= .type "dict",data:= .dict #[{ hash:=UX w.params "box",key:= .str "box" qPLACE_OF0,val:= .int 2 vPLACE_OF0 },{ hash:=UX w.params "lock",key:= .str "lock" qPLACE_OF1,val:= .int 3 vPLACE_OF1 },{ hash:=UX w.params "lane",key:= .str "lane" qPLACE_OF2,val:= .int 4 vPLACE_OF2 },{ hash:=UX w.params "door",key:= .str "door" qPLACE_OF3,val:= .int 5 vPLACE_OF3 }] ePLACE_OF }) (yPLACE_OF:(aPLACE_OF == Vx)=false)
  (wMET_SORT:US K UI "MET_SORT" =some (some (.ref aMET_SORT))) (oMET_SORT:K.lookup aMET_SORT=some { cls:= .type "dict",data:= .dict #[{ hash:=UX w.params "get",key:= .str "get" qMET_SORT0,val:= .str "box" vMET_SORT0 },{ hash:=UX w.params "put",key:= .str "put" qMET_SORT1,val:= .str "box" vMET_SORT1 },{ hash:=UX w.params "take",key:= .str "take" qMET_SORT2,val:= .str "lock" vMET_SORT2 },{ hash:=UX w.params "free",key:= .str "free" qMET_SORT3,val:= .str "lock" vMET_SORT3 },{ hash:=UX w.params "send",key:= .str "send" qMET_SORT4,val:= .str "lane" vMET_SORT4 },{ hash:=UX w.params "fetch",key:= .str "fetch" qMET_SORT5,val:= .str "lane" vMET_SORT5 },{ hash:=UX w.params "say",key:= .str "say" qMET_SORT6,val:= .str "door" vMET_SORT6 }] eMET_SORT }) (yMET_SORT:(aMET_SORT == Vx)=false) :
  ∃ fd:V0,(∀(s:Uj)(v:Value),ZD s fd ⟨[v],[]⟩ [("_law_script",v)])/\ ∀ base:Heap,K.In base->base.Ns UI mg->lV l.prog w K mg base ue (room+1) fa fd ["_law_script"] (xD K tb (room+1) "law"):=by
 have T:Top l.prog w K mg tb:=⟨(Ug.mpr ⟨UQ X G z0,(Ug.mpr ⟨UQ X G z1,(Ug.mpr ⟨UQ X G z2,(Ug.mpr ⟨UQ X G z3,(Ug.mpr ⟨UQ X G z4,(Ug.mpr ⟨UQ X G z5,(Ug.mpr ⟨UQ X G z6,(Ug.mpr ⟨UQ X G z7,(Ug.mpr ⟨UQ X G z8,(Ug.mpr ⟨UQ X G z9,(Ug.mpr ⟨UQ X G z10,(Ug.mpr ⟨UQ X G z11,(Ug.mpr ⟨UQ X G z12,(Ug.mpr ⟨UQ X G z13,(Ug.mpr ⟨UQ X G z14,(Ug.mpr ⟨UQ X G z15,(Ug.mpr ⟨UQ X G z16,(Ug.mpr ⟨UQ X G z17,(Ug.mpr ⟨UQ X G z18,(Ug.mpr ⟨UQ X G z19,(by intro p m;cases m)⟩)⟩)⟩)⟩)⟩)⟩)⟩)⟩)⟩)⟩)⟩)⟩)⟩)⟩)⟩)⟩)⟩)⟩)⟩)⟩),Hm (conT:=conT) rfl (Ug.mpr ⟨tL (us:=[.str "box" tSORTS0,.str "lock" tSORTS1,.str "lane" tSORTS2,.str "door" tSORTS3,.str "hand" tSORTS4]) (VQ X G wSORTS) oSORTS (by show 5<=sizeLine;decide) (.cons (.str _ _) (.cons (.str _ _) (.cons (.str _ _) (.cons (.str _ _) (.cons (.str _ _) .nil))))),(Ug.mpr ⟨tW (VQ X G wWORTHS) (.int _ _),(Ug.mpr ⟨tW (VQ X G wMOST_OWN_ROWS) (.int _ _),(Ug.mpr ⟨tL (us:=[.str "get" tPOCKETING0,.str "fetch" tPOCKETING1,.str "clock" tPOCKETING2,.str "lot" tPOCKETING3,.str "hear" tPOCKETING4]) (VQ X G wPOCKETING) oPOCKETING (by show 5<=sizeLine;decide) (.cons (.str _ _) (.cons (.str _ _) (.cons (.str _ _) (.cons (.str _ _) (.cons (.str _ _) .nil))))),(Ug.mpr ⟨tW (VQ X G wCOUNTS) (.int _ _),(Ug.mpr ⟨tW (VQ X G wSEATS) (.int _ _),(Ug.mpr ⟨tL (us:=[.str "clock" tGIFTED0,.str "lot" tGIFTED1,.str "hear" tGIFTED2]) (VQ X G wGIFTED) oGIFTED (by show 3<=sizeLine;decide) (.cons (.str _ _) (.cons (.str _ _) (.cons (.str _ _) .nil))),(by intro p m;cases m)⟩)⟩)⟩)⟩)⟩)⟩)⟩),GH (dcT:=dcT) rfl (Ug.mpr ⟨wG (ls:=[("let",qROW_PARTS0,.ref rROW_PARTS0),("leap",qROW_PARTS1,.ref rROW_PARTS1),("get",qROW_PARTS2,.ref rROW_PARTS2),("put",qROW_PARTS3,.ref rROW_PARTS3),("take",qROW_PARTS4,.ref rROW_PARTS4),("free",qROW_PARTS5,.ref rROW_PARTS5),("send",qROW_PARTS6,.ref rROW_PARTS6),("fetch",qROW_PARTS7,.ref rROW_PARTS7),("say",qROW_PARTS8,.ref rROW_PARTS8),("clock",qROW_PARTS9,.ref rROW_PARTS9),("lot",qROW_PARTS10,.ref rROW_PARTS10),("hear",qROW_PARTS11,.ref rROW_PARTS11)]) (VQ X G wROW_PARTS) oROW_PARTS yROW_PARTS (show([.inr "let",.inr "leap",.inr "get",.inr "put",.inr "take",.inr "free",.inr "send",.inr "fetch",.inr "say",.inr "clock",.inr "lot",.inr "hear"]:List Key).Nodup by decide +kernel) (.cons ⟨rfl,ft (us:=[.str "pocket" tROW_PARTSv0_0,.str "sum" tROW_PARTSv0_1]) oROW_PARTSv0_ (by show 2<=sizeLine;decide) (.cons (.str _ _) (.cons (.str _ _) .nil))⟩ (.cons ⟨rfl,ft (us:=[.str "target" tROW_PARTSv1_0,.str "sum" tROW_PARTSv1_1]) oROW_PARTSv1_ (by show 2<=sizeLine;decide) (.cons (.str _ _) (.cons (.str _ _) .nil))⟩ (.cons ⟨rfl,ft (us:=[.str "pocket" tROW_PARTSv2_0,.str "box" tROW_PARTSv2_1]) oROW_PARTSv2_ (by show 2<=sizeLine;decide) (.cons (.str _ _) (.cons (.str _ _) .nil))⟩ (.cons ⟨rfl,ft (us:=[.str "box" tROW_PARTSv3_0,.str "sum" tROW_PARTSv3_1]) oROW_PARTSv3_ (by show 2<=sizeLine;decide) (.cons (.str _ _) (.cons (.str _ _) .nil))⟩ (.cons ⟨rfl,ft (us:=[.str "lock" tROW_PARTSv4_0]) oROW_PARTSv4_ (by show 1<=sizeLine;decide) (.cons (.str _ _) .nil)⟩ (.cons ⟨rfl,ft (us:=[.str "lock" tROW_PARTSv5_0]) oROW_PARTSv5_ (by show 1<=sizeLine;decide) (.cons (.str _ _) .nil)⟩ (.cons ⟨rfl,ft (us:=[.str "lane" tROW_PARTSv6_0,.str "sum" tROW_PARTSv6_1]) oROW_PARTSv6_ (by show 2<=sizeLine;decide) (.cons (.str _ _) (.cons (.str _ _) .nil))⟩ (.cons ⟨rfl,ft (us:=[.str "pocket" tROW_PARTSv7_0,.str "lane" tROW_PARTSv7_1]) oROW_PARTSv7_ (by show 2<=sizeLine;decide) (.cons (.str _ _) (.cons (.str _ _) .nil))⟩ (.cons ⟨rfl,ft (us:=[.str "door" tROW_PARTSv8_0,.str "sum" tROW_PARTSv8_1]) oROW_PARTSv8_ (by show 2<=sizeLine;decide) (.cons (.str _ _) (.cons (.str _ _) .nil))⟩ (.cons ⟨rfl,ft (us:=[.str "pocket" tROW_PARTSv9_0]) oROW_PARTSv9_ (by show 1<=sizeLine;decide) (.cons (.str _ _) .nil)⟩ (.cons ⟨rfl,ft (us:=[.str "pocket" tROW_PARTSv10_0,.str "chances" tROW_PARTSv10_1]) oROW_PARTSv10_ (by show 2<=sizeLine;decide) (.cons (.str _ _) (.cons (.str _ _) .nil))⟩ (.cons ⟨rfl,ft (us:=[.str "pocket" tROW_PARTSv11_0,.str "door" tROW_PARTSv11_1]) oROW_PARTSv11_ (by show 2<=sizeLine;decide) (.cons (.str _ _) (.cons (.str _ _) .nil))⟩ .nil)))))))))))),(Ug.mpr ⟨wG (ls:=[("box",qPLACE_OF0,.int 2 vPLACE_OF0),("lock",qPLACE_OF1,.int 3 vPLACE_OF1),("lane",qPLACE_OF2,.int 4 vPLACE_OF2),("door",qPLACE_OF3,.int 5 vPLACE_OF3)]) (VQ X G wPLACE_OF) oPLACE_OF yPLACE_OF (show([.inr "box",.inr "lock",.inr "lane",.inr "door"]:List Key).Nodup by decide +kernel) (.cons ⟨rfl,jh (.int _ _)⟩ (.cons ⟨rfl,jh (.int _ _)⟩ (.cons ⟨rfl,jh (.int _ _)⟩ (.cons ⟨rfl,jh (.int _ _)⟩ .nil)))),(Ug.mpr ⟨wG (ls:=[("get",qMET_SORT0,.str "box" vMET_SORT0),("put",qMET_SORT1,.str "box" vMET_SORT1),("take",qMET_SORT2,.str "lock" vMET_SORT2),("free",qMET_SORT3,.str "lock" vMET_SORT3),("send",qMET_SORT4,.str "lane" vMET_SORT4),("fetch",qMET_SORT5,.str "lane" vMET_SORT5),("say",qMET_SORT6,.str "door" vMET_SORT6)]) (VQ X G wMET_SORT) oMET_SORT yMET_SORT (show([.inr "get",.inr "put",.inr "take",.inr "free",.inr "send",.inr "fetch",.inr "say"]:List Key).Nodup by decide +kernel) (.cons ⟨rfl,jh (.str _ _)⟩ (.cons ⟨rfl,jh (.str _ _)⟩ (.cons ⟨rfl,jh (.str _ _)⟩ (.cons ⟨rfl,jh (.str _ _)⟩ (.cons ⟨rfl,jh (.str _ _)⟩ (.cons ⟨rfl,jh (.str _ _)⟩ (.cons ⟨rfl,jh (.str _ _)⟩ .nil))))))),(by intro p m;cases m)⟩)⟩)⟩)⟩
 have gs: ∀ p∈LZ,∃ st N,bj l.prog w K mg tb p.1 p.2 st N:=(Ug.mpr ⟨⟨_,_,wK has A0⟩,(Ug.mpr ⟨⟨_,_,t4 has A1⟩,(Ug.mpr ⟨⟨_,_,xO has A2⟩,(Ug.mpr ⟨⟨_,_,Hc has A3⟩,(Ug.mpr ⟨⟨_,_,o9 has A4⟩,(Ug.mpr ⟨⟨_,_,xg has A5⟩,(Ug.mpr ⟨⟨_,_,vM has A6⟩,(Ug.mpr ⟨⟨_,_,zR has A7⟩,(Ug.mpr ⟨⟨_,_,tT has A8⟩,(Ug.mpr ⟨⟨_,_,CW has A9⟩,(Ug.mpr ⟨⟨_,_,uG has A10⟩,(Ug.mpr ⟨⟨_,_,ub has A11⟩,(Ug.mpr ⟨⟨_,_,nq has A12⟩,(Ug.mpr ⟨⟨_,_,Nq has A13⟩,(Ug.mpr ⟨⟨_,_,xc has A14⟩,(Ug.mpr ⟨⟨_,_,qV has A15⟩,(Ug.mpr ⟨⟨_,_,wD has A16⟩,(Ug.mpr ⟨⟨_,_,q8 has A17⟩,(Ug.mpr ⟨⟨_,_,xF has A18⟩,(Ug.mpr ⟨⟨_,_,w6 has A19⟩,(Ug.mpr ⟨⟨_,_,zL has A20⟩,(Ug.mpr ⟨⟨_,_,KW has A21⟩,(Ug.mpr ⟨⟨_,_,vm has A22⟩,(Ug.mpr ⟨⟨_,_,ui has A23⟩,(Ug.mpr ⟨⟨_,_,Bd has A24⟩,(Ug.mpr ⟨⟨_,_,qp has A25⟩,(Ug.mpr ⟨⟨_,_,uh has A26⟩,(Ug.mpr ⟨⟨_,_,yf has A27⟩,(Ug.mpr ⟨⟨_,_,xr has A28⟩,(Ug.mpr ⟨⟨_,_,v9 has A29⟩,(Ug.mpr ⟨⟨_,_,xW has A30⟩,(Ug.mpr ⟨⟨_,_,nr has A31⟩,(Ug.mpr ⟨⟨_,_,wg has A32⟩,(Ug.mpr ⟨⟨_,_,pR has A33⟩,(Ug.mpr ⟨⟨_,_,sD has A34⟩,(Ug.mpr ⟨⟨_,_,qW has A35⟩,(Ug.mpr ⟨⟨_,_,we has A36⟩,(Ug.mpr ⟨⟨_,_,tV has A37⟩,(Ug.mpr ⟨⟨_,_,ud has A38⟩,(Ug.mpr ⟨⟨_,_,xZ has A39⟩,(Ug.mpr ⟨⟨_,_,vj has A40⟩,(Ug.mpr ⟨⟨_,_,sN has A41⟩,(Ug.mpr ⟨⟨_,_,qD has A42⟩,(Ug.mpr ⟨⟨_,_,tN has A43⟩,(Ug.mpr ⟨⟨_,_,zH has A44⟩,(Ug.mpr ⟨⟨_,_,xf has A45⟩,(Ug.mpr ⟨⟨_,_,uL has A46⟩,(Ug.mpr ⟨⟨_,_,uK has A47⟩,(Ug.mpr ⟨⟨_,_,qi has A48⟩,(Ug.mpr ⟨⟨_,_,IP has A49⟩,(by intro p m;cases m)⟩)⟩)⟩)⟩)⟩)⟩)⟩)⟩)⟩)⟩)⟩)⟩)⟩)⟩)⟩)⟩)⟩)⟩)⟩)⟩)⟩)⟩)⟩)⟩)⟩)⟩)⟩)⟩)⟩)⟩)⟩)⟩)⟩)⟩)⟩)⟩)⟩)⟩)⟩)⟩)⟩)⟩)⟩)⟩)⟩)⟩)⟩)⟩)⟩)⟩)
 exact KS T (Dj rfl gs) has.IJ rfl (IP has A49) hfa
theorem walk{l:Yd}{q:UN}{loose:List Str}{XP:(Str->Option Value)->Heap->Prop}{YP:World->Heap->Prop}{d:DefRec}{K:Params->Ud}(hn:l.most=some 63)(hdf:d.params.defaults=[])
  (hY: ∀(w:World)(h:Heap),YP w h->(K w.params).In h)
  (F: ∀(w:World)(mg:Str->Option Value)(fa:Addr)(h:Heap),(K w.params).In h->h.Ns UI mg->mg d.name=some (.ref fa) ->
   ∃ fd:V0,(∀(s:Uj)(u:Value),ZD s fd ⟨[u],[]⟩ [("_law_script",u)])/\ ∀ base:Heap,(K w.params).In base->base.Ns UI mg->lV l.prog w (K w.params) mg base ue (room+1) fa fd ["_law_script"] (xD (K w.params) tb (room+1) "law")) :
  abO q loose XP YP l.row.toRowW d [] (λf vs=>abJ f vs) :=
 L2.Ft (n:=63) (k:=room+1) (x:= "_law_script") (CX:=λ_=>ue) (sp:=λw=>xD (K w.params) tb (room+1) "law") hn (by decide) hdf ⟨rfl,by decide,by decide,rfl⟩ hY F (λ_ H a ns hl hO hS=>Ll Ep H a ns hl hO hS) λ_ _ _ _ _ z=>z
end K21
open PySem PySem.W PyProof.Rows
set_option maxRecDepth 100000 in
set_option maxHeartbeats 0 in
theorem PySem.Challenge.cw_leastrecord_k21_steps_holds : PySem.Challenge.rw_leastrecord_k21_steps.Holds := by
 w_on;o_law;k_head;(case hw=>w_witness2)
 k_fill
 refine K21.walk (l:=PySem.Challenge.rw_leastrecord_k21_steps) rfl rfl (λw h Y=>PySem.W.kIn_of Y) ?F
 case F =>
  intro w mg fa h KX G hmg
  refine' K21.all_mk KX G hmg (L2.aL KX G ?_ ?_ ?_ ?_) (L2.aL KX G ?_ ?_ ?_ ?_) (L2.aL KX G ?_ ?_ ?_ ?_) (L2.aL KX G ?_ ?_ ?_ ?_) (L2.aL KX G ?_ ?_ ?_ ?_) (L2.aL KX G ?_ ?_ ?_ ?_) (L2.aL KX G ?_ ?_ ?_ ?_) (L2.aL KX G ?_ ?_ ?_ ?_) (L2.aL KX G ?_ ?_ ?_ ?_) (L2.aL KX G ?_ ?_ ?_ ?_) (L2.aL KX G ?_ ?_ ?_ ?_) (L2.aL KX G ?_ ?_ ?_ ?_) (L2.aL KX G ?_ ?_ ?_ ?_) (L2.aL KX G ?_ ?_ ?_ ?_) (L2.aL KX G ?_ ?_ ?_ ?_) (L2.aL KX G ?_ ?_ ?_ ?_) (L2.aL KX G ?_ ?_ ?_ ?_) (L2.aL KX G ?_ ?_ ?_ ?_) (L2.aL KX G ?_ ?_ ?_ ?_) (L2.aL KX G ?_ ?_ ?_ ?_) (L2.aL KX G ?_ ?_ ?_ ?_) (L2.aL KX G ?_ ?_ ?_ ?_) (L2.aL KX G ?_ ?_ ?_ ?_) (L2.aL KX G ?_ ?_ ?_ ?_) (L2.aL KX G ?_ ?_ ?_ ?_) (L2.aL KX G ?_ ?_ ?_ ?_) (L2.aL KX G ?_ ?_ ?_ ?_) (L2.aL KX G ?_ ?_ ?_ ?_) (L2.aL KX G ?_ ?_ ?_ ?_) (L2.aL KX G ?_ ?_ ?_ ?_) (L2.aL KX G ?_ ?_ ?_ ?_) (L2.aL KX G ?_ ?_ ?_ ?_) (L2.aL KX G ?_ ?_ ?_ ?_) (L2.aL KX G ?_ ?_ ?_ ?_) (L2.aL KX G ?_ ?_ ?_ ?_) (L2.aL KX G ?_ ?_ ?_ ?_) (L2.aL KX G ?_ ?_ ?_ ?_) (L2.aL KX G ?_ ?_ ?_ ?_) (L2.aL KX G ?_ ?_ ?_ ?_) (L2.aL KX G ?_ ?_ ?_ ?_) (L2.aL KX G ?_ ?_ ?_ ?_) (L2.aL KX G ?_ ?_ ?_ ?_) (L2.aL KX G ?_ ?_ ?_ ?_) (L2.aL KX G ?_ ?_ ?_ ?_) (L2.aL KX G ?_ ?_ ?_ ?_) (L2.aL KX G ?_ ?_ ?_ ?_) (L2.aL KX G ?_ ?_ ?_ ?_) (L2.aL KX G ?_ ?_ ?_ ?_) (L2.aL KX G ?_ ?_ ?_ ?_) (L2.aL KX G ?_ ?_ ?_ ?_) ?z0 ?z1 ?z2 ?z3 ?z4 ?z5 ?z6 ?z7 ?z8 ?z9 ?z10 ?z11 ?z12 ?z13 ?z14 ?z15 ?z16 ?z17 ?z18 ?z19 ?wSORTS ?oSORTS ?wWORTHS ?wMOST_OWN_ROWS ?wPOCKETING ?oPOCKETING ?wCOUNTS ?wSEATS ?wGIFTED ?oGIFTED ?oROW_PARTSv0_ ?oROW_PARTSv1_ ?oROW_PARTSv2_ ?oROW_PARTSv3_ ?oROW_PARTSv4_ ?oROW_PARTSv5_ ?oROW_PARTSv6_ ?oROW_PARTSv7_ ?oROW_PARTSv8_ ?oROW_PARTSv9_ ?oROW_PARTSv10_ ?oROW_PARTSv11_ ?wROW_PARTS ?oROW_PARTS ?yROW_PARTS ?wPLACE_OF ?oPLACE_OF ?yPLACE_OF ?wMET_SORT ?oMET_SORT ?yMET_SORT
  all_goals try k_is
  all_goals try k_is
  all_goals exact rfl
end
end
end
