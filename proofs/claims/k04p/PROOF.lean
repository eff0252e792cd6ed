import PyProof.Rows.All
import Wide.All
import OpenK.AllK
import Wide.FinOn
import Lean
import PyProof.EqAt
import PyProof.EqKinds
import PyProof.TupleCall
import KE.KDictSum
import PyProof.AttrMissHeap
import PyProof.WalksMore
import KE.LcSums
import PyProof.AutoListH
import PyProof.ListMulRoad
import KE.KSortTup
import PyProof.ZipIter
import PyProof.Draws
import PyProof.EnumFor
import PyProof.ReprRoads
import PyProof.ListRange
import PyProof.ListNew
import PyProof.StrCalls2
import PyProof.CallStr
import PyProof.Rows.SetFrom
import PyProof.SetRoads
import PyProof.MeetsStr2
import PyProof.TupleOfGen
import PyProof.CollectWalk
import KE.KIntText
import PyProof.FString
import PyProof.EnumMake
import PySem.Challenge.RW_leastrecord_k04_written_and_read
open Option renaming some->TK,none->TL,isSome_some->Wy,isSome_iff_exists->WW,map_some->Zg,isSome_map->aau,getD_none->aaF
open PySem renaming wpAny_bind->TM,Value->TY,Shared->Ua,sizeLine->Ub,wpAny_pure->Ud,Addr->Uj,wpAny->Ur,model->Uu,starEach->UH,compareOp->UJ,mainGlobals->UL,Program->UP,Expr->UR,foldedSetIterable->UX,wpAny_mono->UZ,wpAny_field->U4,World->U6,behindInMarks->U7,wpAny_callSpecial?_slot->Ve,wpAny_truthy_bool->Vh,wpAny_newObj_type->Vi,Around->Vk,eval->Vl,assignEach->Vs,Heap->Vx,bootBuiltins->Vy,binaryOp->VC,wpAny_ite_split->VN,wpAny_holding->VP,attributeBase->VQ,call_meets->VS,wpAny_seqItems->VU,sysModules->VX,wpAny_Call_Name_kw->VZ,wpAny_call_entry->V0,wpAny_setField_rec->V1,compEnvC->V6,Paired->V7,bindArgs->Wc,swapsWith->Wg,mem_of_lookup->Wo,backTo->Wq,FuncData->WD,cellsFrom->WI,codeAny->WN,wpAny_load->WO,ZipApart->WQ,holding->WS,wpAny_passesOwn->W2,codeAny_builtin->W4,IsPair->W9,keywordEach->Xb,Stmt->Xe,Builtin->Xl,PyData->Xn,wpAny_nextOf_list_item->Xo,typeIs_str->Xt,wpAny_onRaise->Xx,NameKind->Xy,wpAny_updateSeq_pair->XB,wpAny_specialOf->XG,field->XN,getItem->XQ,wpAny_typeOf->XR,Scope->XY,assign->X0,cLine->X3,tupleKind_room_in1->X8,wpAny_pyIter_tuple->Yc,intText?->Ye,wpAny_binaryOp_repeat_ref->Yf,standAt->Yj,subscripted->Yk,sliceBounds->Yl,wpAny_pyIter_list->Yo,wpAny_comprehension_free->Yt,wpAny_attempt->Yv,plainId_quiet->Yx,lastMarks->Yz,getMethod->YB,backToKw->YC,noFill_tuple_add->YD,pushCells->YF,wpAny_pyIter_zip->YJ,BindsTo->YR,codeAny_mono->YS,IsPart->YT,typeIs_int->YV,PlainAttrs->YW,valueAt->YY,wpAny_rule->Y6,wpAny_execs_nil->Zb,letOwnedTupleGo->Zc,pushCells_keeps->Zf,wpAny_updateSeq->Zi,wpAny_isTrue_Compare1->Zj,wpAny_nextOf_list_end->Zn,wpAny_letTemporaryGo->Zx,newFunctionEnv->Zy,tupleKind->ZL,Keyword->ZM,callerA->ZN,wpAny_standAt->ZV,swapsWithSole->ZW,swappedStores->ZX,seq_tuple_add->ZY,IsZip->ZZ,pyIter->Z9,typeLookup->aad,Within->aal,concat_meets->aaq,seqIndex_neg->aar,isTrue->aaA,pyNext->aaB,PassesOwn->aaC,Result->aaE,seqSlot_of->aaG,strValues->aaH,sizeLine_eq->aaK,seqIndex_of->aaL,atKey->aaM,wpAny_of_eq->aaN,wpAny_letGo->aaO,unaryOp->aaT,callWith->aaY,typeOf->aaZ,call->aa6,JoinOk->aa7
open List renaming forall_mem_cons->TN,getElem?_eq_some_iff->TR,length_map->TV,length_append->TX,append_assoc->TZ,mem_cons_of_mem->T7,map_cons->T9,length_cons->Uc,replicate->Ue,mem_cons_self->Ug,mem_cons->Uh,append_nil->Ui,getElem?_set_ne->Um,getElem?_append_right->Uo,getElem?_append_left->Uq,getElem?_set_self->Us,size_toArray->Ux,flatMap_cons->Uy,mem_append->Uz,length_set->UA,mem_append_right->UB,length_singleton->UC,mem_singleton->UD,map_nil->UE,getElem?_eq_getElem->UI,not_mem_nil->UK,map_append->US,nil_append->UU,mem_of_getElem?->UW,length_take->UY,getElem?_map->U1,mem_map->Vb,length_nil->Vc,cons_append->Vf,flatMap_nil->Vg,filterMap_eq_map'->Vm,set_append_right->Vr,lookup_cons->Vz,drop_eq_nil_of_le->VA,map_map->VB,drop_eq_getElem_cons->VD,mem_of_find?_eq_some->VE,mem_map_of_mem->VH,forIn_cons->VM,length_drop->VO,range->VY,nodup_cons->V5,any_cons->Wa,mem_append_left->Wh,lookup->Wi,mem_of_mem_take->Wj,getElem?_replicate->Ws,all_eq_true->Wt,take_append_of_le_length->Ww,take_of_length_le->Wz,set_cons_zero->WB,all_cons->WJ,contains_iff_mem->WL,getElem?_eq_none_iff->WU,getLast?_eq_getElem?->WV,find?_some->W3,reverse_cons->Xk,nodup_append->Xq,length->Xz,eq_nil_of_length_eq_zero->XC,getElem?_of_mem->XD,filterMap_cons->XJ,length_pos_iff->XO,getElem?_zip_eq_some->Yh,length_range->Yq,take_length->YI,length_eq_zero_iff->YL,set_set->Za,of_mem_zip->Ze,length_replicate->Zl,take_append_drop->Zo,mem_range->Zt,drop_zero->ZA,set_append_left->ZF,mem_of_mem_drop->ZJ,drop_drop->ZK,replicate_succ->ZR,mem_filterMap->aaa,set_cons_succ->aag,getElem?_take->aah,getElem?_drop->aak,getElem_mem->aaI,flatMap_map->aaJ,mem_filter->aaQ,find?_cons->aaR,foldl->aa0,drop_left->aa9,map_drop->abc,map_take->abd
open PySem.W renaming Frag->TQ,findIn->UO,fnOf->U2,mg_of->U8,nsIn->Va,keepIn->Vt,kia_one->Vw,emptyDict->VJ,instObj->V3,plainGet->Wr,makesIn->WC,hasDictIn->WM,plainOver->Xh,cellsFrom_some->Xi,OpenLaw->XA,codeIn->XF,plainGet_of->XM,kia_tup->XS,lookIn->X1,kitOne->X2,callWith_K->X4,kitx_list->Yr,kitx_dict->Ys,isFn->YQ,takerIn->Zd,methodCall_KW->Zk,kitAny->ZE,callWith_K0->ZP,specialIn->aam,handedIn->aaD,WalkO->aaV,kitx_float->aaW,kitx_tuple->aaX
open PySem.Str renaming ofString->TU,join->VF,empty->WH,ofString_eq_toList->Y7
open PySem.Heap renaming get?_push_of_some->T1,lt_size->Uk,get?_push_size->Up,size_push->Vu,push->V2,get?_update_other->V8,get?_update_self->We,SameBut->Xg
open Nat renaming le_refl->T6,lt_of_lt_of_le->Ul,ne_of_lt->UN,le_trans->UQ,lt_irrefl->U5,zero_le->Vp,ne_of_gt->VR,sub_self->Wk,lt_or_ge->Xm,lt_succ_self->Xs,min_eq_right->Xu,le_succ_of_le->Yn,min_le_right->YE,le_of_lt->YO,le_total->YZ,lt_of_succ_lt_succ->Y9,min_eq_left->Zh,le_succ->Zu,ble->ZO,eq_zero_or_pos->aaf,mul_comm->aas,lt_trans->aav,lt_succ_of_lt->aaw,sub_zero->aay,log2_lt->aaP
open Bool renaming false_ne_true->Ut,and_eq_true->Uw,and_self->WK,eq_iff_iff->XE,or_eq_true->XH,false_and->X9,false_eq_true->Ya,and_false->Zv,and_eq_true_iff->Zz,true_or->aat,true_and->abb
open PySem.Value renaming ref->Uv,type->Wb,none->Wx,bool->Xr,int->XU,str->XW,float->Zr,isStrOf->aba
open PySem.PyData renaming strOk->UG,keyHash->UT,str->Vv,depthAll->WG,list->WR,eqv->Yb,canLayAll0->Yp,canLay0->ZI,eqvAll->abe
open PySem.Builtin.SmallTypes renaming nextOf->UM,ownedTupleIsFree->Vj,ownedTupleHandOut->ZT
open Option.some renaming inj->U0,injEq->Ym
open PyProof.Rows renaming slot_tuple_getitem->U3,callWith_type1->U9,canLayAll_strs'->XI,envOfC->X5,AllBare->Yi,subscriptTail_builtinR->YU,entry_tuple_getitem->ZQ,args_tuple_getitem->aac,isStrOf->aaz,IntsAre->aaU
open PySem.Builtin.Str renaming occurrences->Vd,strKind->ZU
open PySem.Builtin.Tuple renaming tupleExact->Vn,tupleItemsOf->X6,tupleTooMany->Yd
open PySem.AutoSeq1 renaming wpAny_loadPart'->Vo
open PySem.F renaming slot_zip_next->Vq,slot_tuple_iterator_next->VT,slot_tuple_mul->V9,args_zip_next_1->Wu,entry_zip_next->WA,args_tuple_add_2->WX,args_tuple_mul_2->WZ,args_tuple_iterator_next_1->W8,entry_tuple_add->Xc,entry_tuple_mul->Xd,entry_tuple_iterator_next->Xf,slot_tuple_add->Xj,slot_dict_getitem->Yg,slot_str_eq_refl->Yu,slot_tuple_rmul->YH,slot_int_rmul->Zm,sub_str_dict->ZC,slot_dict_eq->ZD
open False renaming elim->VG
open Ne renaming symm->VI
open Int renaming toNat_natCast->VL,eq_ofNat_of_zero_le->Wv,emod_nonneg->W7,emod_lt_of_pos->Xa,toNat->abf
open PySem.Txt renaming split->VW,join->aa8
open True renaming intro->V4
open PySem.Obj renaming mapSeq->Wd,data_mapFields->aae
open PySem.Builtin.Slice renaming slicePlaces->Wf,sliceAdjust->WT
open PySem.NameKind renaming free->Wl,cell->Wm
open Array renaming length_toList->Wn,size_append->Xp,append_assoc->XX,forIn_toList->aai,toList_push->aax,toList->abg
open ForInStep renaming yield->WE
open PySem.Builtin.List renaming listTooLong->WY,listLengthHint->XT,listSameRef->Yy
open List.cons renaming inj->W0
open Sum renaming inr->Xv,inl->aaS
open PySem.Paired renaming length->Xw,snoc->abh
open PySem.Calls renaming Name_function_global->XZ,callWith_builtin->YX,Constant_str->Z8,spliced_cons->aab,spliced_nil->aap
open Or renaming inr->X7,inl->Zw
open And renaming intro->YG
open Eq renaming trans->YM
open Char renaming toNat->Y8
open PySem.StrLaws renaming glued_eq_join->Zp,join_split->aaj
open PySem.W.KIN renaming num_reads->Zq
open Std.Legacy.Range renaming forIn_eq_forIn_range'->ZG
open PySem.Around renaming under_plainId->ZH,under->aan
open PySem.Heap.SameBut renaming update->ZS
open PySem.SeqAt.EqAt renaming int_str->Z6,str_int->Z7
open PySem.Code renaming isFrame->aao
open PySem.Heap.IsSliceOf renaming new->abi
set_option genSizeOf false
set_option compiler.extract_closed false
set_option bootstrap.genMatcherCode false
namespace PySem.W.Fast
def tw17657967258503169100:=0
def tw18231399805210994937:=0
def tw3643528084157066715:=0
def tw5456498509926196153:=0
def tw15751367182299026533:=0
def tw8676353856797067994:=0
def tw3363567685156519548:=0
def tw9000738793726487663:=0
def tw17966196767488005478:=0
def tw5596782118566506383:=0
def tw16567601331420963346:=0
def tw18417452141314423642:=0
def tw11440460574393167629:=0
def tw7026163990172085142:=0
def tw14377954095549517735:=0
def tw8266876854796876982:=0
def tw10084586757717478927:=0
def tw11014771301945456653:=0
def tw11538372451706487319:=0
def tw12270214718602727237:=0
def tw8629155890952334558:=0
def tw11384302603095955822:=0
def tw613538980034980613:=0
def tw13915055112162469740:=0
def tw15280517462938998901:=0
def tw466428441806624567:=0
def tw8261726056363167419:=0
def tw10935339248197284321:=0
def tw820018823022748047:=0
def tw2996506356600428371:=0
def tw12594892568268497809:=0
def tw13702801933569742379:=0
def tw5717261424212994833:=0
def tw15328176990864614342:=0
def tw17549628140057538173:=0
def tw6293198907570630186:=0
def tw3754866499770918267:=0
def tw11703696032590940138:=0
def tw10555971452188286595:=0
def tw9437900408069179419:=0
def tw8602365106156611636:=0
def tw13852049147809167207:=0
def tw4888087074986140272:=0
def tw5546660489568245013:=0
def tw17852326886223873414:=0
def tw16847058124016371914:=0
def tw6019925240840708627:=0
def tw16437565456673482666:=0
def tw2876029430533076570:=0
def tw11019650793850750186:=0
def tw8817420731162818127:=0
def tw11550658617254352200:=0
def tw15631025061824282388:=0
def tw16875283216622947652:=0
def tw2357980985664515136:=0
def tw7888966337220019371:=0
def tw14836475873319050567:=0
def tw10051994067617930606:=0
def tw11364847972849441340:=0
def tw16066512783908110630:=0
def tw2910234005873461581:=0
def tw726543264982462657:=0
def tw1906528555325145696:=0
def tw18150935557797989374:=0
def tw6727468496315121706:=0
def tw3486878799363890065:=0
def tw289684961502320166:=0
def tw528531871318042828:=0
def tw14127305627500094903:=0
def tw8009196851728150607:=0
def tw12056009446088610109:=0
def tw2660718293953304060:=0
def tw6227643784931144528:=0
def tw5973907738729281257:=0
def tw5289140498597570645:=0
def tw6601003931342509754:=0
def tw12605611645660611130:=0
def tw11424863337660830885:=0
def tw17131923299415553658:=0
def tw10964618415103047870:=0
def tw8212748523353345529:=0
def tw4580546845463589893:=0
def tw9935646608562076679:=0
def tw6098292103614955191:=0
def tw3013462469041593308:=0
def tw9407795701706537470:=0
def tw2446728715501955752:=0
def tw12928007415083487762:=0
def tw13590030486110021269:=0
def tw5179039250779392146:=0
def tw4436077953860444982:=0
def tw17048497626310367886:=0
def tw15271075831066618274:=0
def tw12104468909703653589:=0
def tw13173774336903057543:=0
def tw4369984976911615204:=0
def tw3715459447740842035:=0
def tw7187762100292797777:=0
def tw6432534019361136373:=0
def tw17081963898149142160:=0
def tw11250695586077552631:=0
def tw4591151342053722453:=0
def tw9374039076070029953:=0
def tw10684124444143320917:=0
def tw13641703698930369781:=0
def tw519978344208470427:=0
def tw10612893468271060886:=0
def tw17230845232521572072:=0
def tw9083964085811063632:=0
def tw6608199465376769001:=0
def tw12729448714248061516:=0
def tw15451561457284714228:=0
def tw999890326233501889:=0
def tw11319472144238872170:=0
def tw482165396275426599:=0
def tw14180101210851556688:=0
def tw16574716270526522182:=0
def tw7800433291763440602:=0
def tw14396993000126809128:=0
def tw16499711460703581453:=0
def tw9154512004022803357:=0
def tw13150846181996253061:=0
def tw3057260402492705412:=0
def tw10326758315049114771:=0
def tw5774952991588332500:=0
def tw17652879177725035021:=0
def tw8321404365431343530:=0
def tw11240904663714201612:=0
def tw18425608283681066303:=0
def tw4816563403863358444:=0
def tw1993850604056090984:=0
def tw2142271144725278363:=0
def tw14821634503614153483:=0
def tw13017664293505230811:=0
def tw13642702907098707373:=0
def tw1239065900101320424:=0
def tw5695858001190550398:=0
def tw13380533665665405764:=0
def tw4619432987086860678:=0
def tw8117189408721973926:=0
def tw2757933544559712120:=0
def tw5465794269506060151:=0
def tw7318703471425066946:=0
def tw5540379645071767443:=0
def tw16321351197740578850:=0
def tw1819142265670829523:=0
def tw5936978635713076084:=0
def tw9982021117507564443:=0
def tw17043018259231019471:=0
def tw11734289848076220676:=0
def tw9343450908513977460:=0
def tw6213750686816247338:=0
def tw3200346787750504754:=0
def tw9417400315966143588:=0
def tw8329710189856072177:=0
def tw10040157217766393369:=0
def tw8249979661967704767:=0
def tw8462988348832486890:=0
def tw10446395641679721702:=0
def tw6264960869450643018:=0
def tw14748378323505297354:=0
def tw9236322145011884957:=0
def tw4350723998645605314:=0
def tw17271021274030668715:=0
def tw15745187427538593224:=0
def tw3328007571218077826:=0
def tw582058640769873807:=0
def tw16358761528119980319:=0
def tw11852566886482956591:=0
def tw305403367217424738:=0
def tw18014037514670078223:=0
def tw11131092630982186825:=0
def tw3635332678808795450:=0
def tw3626770208033766032:=0
def tw10306745207407994908:=0
def tw15142272813807784632:=0
def tw9984449512971153901:=0
def tw5903031178010016253:=0
def tw16168145625692630412:=0
def tw15156404356611590166:=0
def tw17262732351122078659:=0
def tw9425368261117368185:=0
def tw3280482259242283281:=0
def tw10022448677071481118:=0
def tw14869750413900909182:=0
def tw984421102424339833:=0
def tw12232398993438775325:=0
def tw4896809227607847684:=0
def tw3978168418090638051:=0
def tw6529320979780592070:=0
def tw9992902060822740784:=0
def tw15392902177521022212:=0
def tw5796262001086009477:=0
def tw1678422463727714991:=0
def tw16049088028262817179:=0
def tw12957240418894547229:=0
def tw3704644575470224170:=0
def tw9604511567808046253:=0
def tw8908685178376969369:=0
def tw4214556134144236493:=0
def tw7413211700092811553:=0
def tw11903398354872596804:=0
def tw12348032047508601953:=0
def tw3093104513645493207:=0
def tw15179055789342194116:=0
def tw12713277193089813138:=0
def tw14374033018060991670:=0
def tw3945112050543904400:=0
def tw6431196959612226621:=0
end PySem.W.Fast
noncomputable section
set_option Elab.async false
set_option linter.all false
set_option maxRecDepth 100000
section
namespace L2
open PySem PySem.Spec PyProof.Rows
abbrev Key:=Sum Int Str
noncomputable def pZ:Key->TY->Bool
 | .inl k,v=>Value.isInt k v
 | .inr x,v=>aba x v
noncomputable def R4(w:U6):Key->Int
 | .inl k=>hashInt k
 | .inr x=>hashStr w x
theorem bI: ∀{k v},pZ k v=true->(∃ i t,k=aaS i/\v=XU i t)\/(∃ x t,k=Xv x/\v=XW x t)
 | .inl i,v,h=>by
  obtain⟨t,e⟩:=Value.isInt_shape (k:=i) (v:=v) h;exact .inl ⟨i,t,rfl,e⟩
 | .inr x,v,h=>by
  obtain⟨t,e⟩:=Value.isStrOf_shape (x:=x) (v:=v) h;exact .inr ⟨x,t,rfl,e⟩
theorem yu i t:pZ (.inl i) (.int i t)=true:=by simp[pZ,Value.isInt]
theorem kP x t:pZ (.inr x) (.str x t)=true:=by simp[pZ,aba]
theorem Jb a b:decide ((aaS a:Key)=aaS b)=(a == b):=by
 by_cases e:a=b
 . subst e;simp
 . simp_all
theorem ID a b:decide ((Xv a:Key)=Xv b)=decide (a=b):=by
 simp_all
theorem JK(a:Int)(b:Str):decide ((aaS a)=Xv b)=false:=decide_eq_false (λq=>by cases q)
theorem MV(a:Str)(b:Int):decide ((Xv a)=aaS b)=false:=decide_eq_false (λq=>by cases q)
def bz prog w:PySem.KeyKind prog w Key where
 is:=pZ
 hash:=R4 w
 inj:=λv a b ha hb=>by
  rcases bI ha with⟨i,t,rfl,rfl⟩ | ⟨x,t,rfl,rfl⟩
  . rcases bI hb with⟨j,u,rfl,e⟩ | ⟨y,u,rfl,e⟩
    . injection e with e1 _;rw[e1]
    . nomatch e
  . rcases bI hb with⟨j,u,rfl,e⟩ | ⟨y,u,rfl,e⟩
    . nomatch e
    . injection e with e1 _;rw[e1]
 byValue:=λk v h=>by
  rcases bI h with⟨i,t,rfl,rfl⟩ | ⟨x,t,rfl,rfl⟩<;>rfl
 pyHash:=λhv h=>by
  rcases bI hv with⟨i,t,rfl,rfl⟩ | ⟨x,t,rfl,rfl⟩
  . exact wpAny_pyHash_int h
  . exact wpAny_pyHash_str h
 eqBool:=λhu hv h=>by
  rcases bI hu with⟨i,t,rfl,rfl⟩ | ⟨x,t,rfl,rfl⟩
  . rcases bI hv with⟨j,u,rfl,rfl⟩ | ⟨y,u,rfl,rfl⟩
    . rw[Jb] at h;exact wpAny_eqBool_int h
    . rw[JK] at h;exact Z6 i t y u _ _ _ _ h
  . rcases bI hv with⟨j,u,rfl,rfl⟩ | ⟨y,u,rfl,rfl⟩
    . rw[MV] at h;exact Z7 x t j u _ _ _ _ h
    . rw[ID] at h;exact wpAny_eqBool_str h
 «strs» :=λk x t v h=>by
  rcases bI h with⟨i,u,rfl,e⟩ | ⟨y,u,rfl,e⟩
  . nomatch e
  . injection e with e1 _;subst e1;cases v<;>rfl
theorem uO prog w i t:(bz prog w).is (.inl i) (.int i t)=true:=yu i t
theorem sX prog w x t:(bz prog w).is (.inr x) (.str x t)=true:=kP x t
inductive V where
 | non | bl (b:Bool) | int (i:Int) | str (x:Str) | byt (b:Array UInt8) | flt (b:UInt64) | ref (a:Uj) | ty (n:String)
 deriving DecidableEq
def RelV:V->TY->Prop
 | .non,u=>u=Wx
 | .bl b,u=>u=Xr b
 | .int i,u=> ∃ t,u=XU i t
 | .str x,u=> ∃ t,u=XW x t
 | .byt b,u=> ∃ t,u=Value.bytes b t
 | .flt b,u=> ∃ t,u=Zr b t
 | .ref a,u=>u=Uv a
 | .ty n,u=>u=Wb n
abbrev Vals:List V->List TY->Prop:=V7 RelV
theorem Vals.length(r:Vals xs us):xs.length=us.length:=Xw r
theorem Vals.get: ∀{xs us}{i:Nat}{x},Vals xs us->xs[i]?=TK x-> ∃ u,us[i]?=TK u/\RelV x u
 | _,_,_,_,.nil,e=>by simp at e
 | _,_,0,_,.cons r _,e=>by simp at e;subst e;exact⟨_,rfl,r⟩
 | _,_,i+1,x,.cons _ t,e=>by
  obtain⟨u,h1,h2⟩:=Vals.get (i:=i) (x:=x) t (by simpa using e);exact⟨u,by simpa using h1,h2⟩
theorem Vals.set(r:RelV x u): ∀{xs us} i,Vals xs us->Vals (xs.set i x) (us.set i u)
 | _,_,_,.nil=> .nil
 | _,_,0,.cons _ t=> .cons r t
 | _,_,i+1,.cons q t=> .cons q (Vals.set r i t)
theorem Vals.append: ∀{xs ys us ws},Vals xs us->Vals ys ws->Vals (xs++ys) (us++ws)
 | _,_,_,_,.nil,s=>s
 | _,_,_,_,.cons r t,s=> .cons r (Vals.append t s)
theorem Vals.take: ∀{xs us} n,Vals xs us->Vals (xs.take n) (us.take n)
 | _,_,0,_=> .nil
 | _,_,_+1,.nil=> .nil
 | _,_,n+1,.cons r t=> .cons r (Vals.take n t)
theorem Vals.drop: ∀{xs us} n,Vals xs us->Vals (xs.drop n) (us.drop n)
 | _,_,0,r=>r
 | _,_,_+1,.nil=> .nil
 | _,_,n+1,.cons _ t=>Vals.drop n t
def gL:Option V->Option TY->Prop
 | some v,TK u=>RelV v u
 | none,TL=>True
 | _,_=>False
def KV{κ}:=V7 λ(p: κ × V) (q: κ × TY)=>p.1=q.1/\RelV p.2 q.2
noncomputable def kV:Key->V
 | .inl i=> .int i
 | .inr x=> .str x
inductive HO where
  | lst (xs:List V)
  | tup (xs:List V)
  | dK (kvs:List (Key × V)) | dT (kvs:List (List Key × V))
  | set (S:Int->Bool) (n:Nat)
  | ins (C dx:Uj) (fs:List (Str × V))
  | own (x:Uj)
  | xd (fs:List (Str × V))
  | met (f x:Uj)
  | rng (lo hi:Int)
  | je (o:Obj) (u:HO)
  | tbl (ps:Array TY)
  | ext (φ :Vx->Prop)
abbrev Hp:=Uj->Option HO
noncomputable def upd(H:Hp)(a:Uj)(o:HO):Hp:=λb=>if b=a then TK o else H b
theorem aI:upd H a o a=TK o:=by unfold upd;rw[if_pos rfl]
theorem av(h:b≠a):upd H a o b=H b:=by unfold upd;rw[if_neg h]
theorem qy{H:Hp}{a b:Uj}{o u:HO}(h:H a=TK o)(h':H b=TK u)(d:o≠u):a≠b:=by
 intro e;subst e;rw[h] at h';exact d (U0 h')
theorem aE{H:Hp}{a b:Uj}{o:HO}(h:H a=TK o)(h':H b=TL):a≠b:=by
 intro e;subst e;rw[h] at h';cases h'
def pM(h:Vx) a (items:Array TY):= ∃ o,h.get? a=TK o/\o.cls= .type "tuple" /\ ∃ n,o.data= .seq items n/\o.dict=TL
theorem pM.tup{h a items}(x:pM h a items):IsTup h a items:=by obtain⟨o,e,c,n,d,_⟩:=x;exact⟨o,e,c,n,d⟩
theorem pM.new(h:Vx) items:pM (h.push { cls:= .type "tuple",data:= .seq items}) h.objs.size items:=⟨_,Up _ rfl,rfl,_,rfl,rfl⟩
section
variable(P:UP)(w:U6)
def bo(H:Hp)(h:Vx)(a:Uj):HO->Prop
 | .lst xs=>xs.length<=Ub/\ ∃(ak:List TY)(n:Nat),Vals xs ak/\h.get? a=TK { cls:= .type "list",data:= .seq ak.toArray n}
 | .tup xs=>xs.length<=Ub/\ ∃ ak ,Vals xs ak/\pM h a ak.toArray
 | .dK kvs=>kvs.length<=Ub/\(a == VX)=false/\ ∃ vs,KV kvs vs/\h.DictOf (bz P w) a vs
 | .dT kvs=>kvs.length<=Ub/\(a == VX)=false/\ ∃ xs ,
   V7 (λ(p) (q)=>p.1=q.1/\H q.2.1=TK (.tup (p.1.map kV))/\RelV p.2 q.2.2) kvs xs /\
   ∃ o es ep,h.get? a=TK o/\o.ExactDict/\o.data= .dict es ep/\es.toList=xs.map (entryOfKey (ZL (bz P w)))/\(xs.map (·.1)).Nodup
 | .set S n=>h.SetOf (intKind P w) a S n
 | .ins C dx fs=>H dx=TK (.own a)/\fs.length<=1000/\dx≠a/\h.get? a=TK (V3 C dx) /\
   ∃ mA,h.Ns1 dx mA/\(∀ f,gL (fs.lookup f) (mA f))/\aal mA (fs.map (·.1))
 | .own _=> ∃ o,h.get? a=TK o
 | .xd fs=> ∃ mA,h.Ns1 a mA/\ ∀ f,gL (fs.lookup f) (mA f)
 | .rng lo hi=> ∃ t u v,h.get? a=TK { cls:= .type "range",data:= .fields #[.int lo t,.int hi u,.int 1 v]}
 | .je o u=>h.get? a=TK o∧bo H h a u
 | .tbl ps=>h.get? a=TK { cls:= .none,data:= .fields ps}
 | .met f x=>h.get? a=TK (PySem.W.methodObj (.ref f) (.ref x))
 | .ext φ => φ h∧(∃ o,h.get? a=TK o)∧ ∀ h1 h2 , φ h1->(∀ o,h1.get? a=TK o->h2.get? a=TK o)-> φ h2
def jE H h:= ∀ a o,H a=TK o->bo P w H h a o
end
section
variable{P:UP}{w:U6}{H H':Hp}{h h':Vx}{a:Uj}{o:HO}
theorem bo.lt(x:bo P w H h a o):a < h.objs.size:=by
 cases o with
 | lst xs=>obtain⟨_,_,_,_,e⟩:=x;exact Uk e
 | tup xs=>obtain⟨_,_,_,p⟩:=x;exact p.tup.lt
 | dK kvs=>obtain⟨_,_,_,_,o,_,_,e,_⟩:=x;exact Uk e
 | dT kvs=>obtain⟨_,_,_,_,o,_,_,e,_⟩:=x;exact Uk e
 | set S n=>obtain⟨o,_,_,_,e,_⟩:=x;exact Uk e
 | ins C dx fs=>obtain⟨_,_,_,e,_⟩:=x;exact Uk e
 | own y=>obtain⟨_,e⟩:=x;exact Uk e
 | xd fs=>obtain⟨_,⟨_,_,_,e,_⟩,_⟩:=x;exact Uk e
 | rng lo hi=>obtain⟨_,_,_,e⟩:=x;exact Uk e
 | je ob u=>obtain⟨e,_⟩:=x;exact Uk e
 | tbl ps=>exact Uk (show h.get? a=TK _ from x)
 | met f y=>exact Uk (show h.get? a=TK _ from x)
 | ext φ =>obtain⟨_,⟨_,e⟩,_⟩:=x;exact Uk e
theorem Paired.Dq: ∀{l₁ l₂},V7 F l₁ l₂ ->(∀ a b,F a b->G a b)->V7 G l₁ l₂
 | _,_,.nil,_=> .nil
 | _,_,.cons r t,f=> .cons (f _ _ r) (Paired.Dq t f)
theorem bo.uM(x:bo P w H h a o)(k: ∀ b u,(b=a\/H b=TK (.own a))->h.get? b=TK u->h'.get? b=TK u)
  (ho: ∀ b,H b=TK (.own a)->H' b=TK (.own a)) (ht: ∀ b xs,H b=TK (.tup xs)->H' b=TK (.tup xs)):bo P w H' h' a o:=by
 induction o with
 | lst xs=>obtain⟨z,ak,n,r,e⟩:=x;exact⟨z,ak,n,r,k _ _ (.inl rfl) e⟩
 | tup xs=>obtain⟨z,ak,r,ob,e,c⟩:=x;exact⟨z,ak,r,ob,k _ _ (.inl rfl) e,c⟩
 | dK kvs=>obtain⟨z,y,vs,r,ob,es,ep,e,c⟩:=x;exact⟨z,y,vs,r,ob,es,ep,k _ _ (.inl rfl) e,c⟩
 | dT kvs =>
  obtain⟨z,y,xs,r,ob,es,ep,e,c⟩:=x
  exact⟨z,y,xs,Paired.Dq r λp q z=>⟨z.1,ht _ _ z.2.1,z.2.2⟩,ob,es,ep,k _ _ (.inl rfl) e,c⟩
 | set S n=>obtain⟨ob,es,ep,t,e,c⟩:=x;exact⟨ob,es,ep,t,k _ _ (.inl rfl) e,c⟩
 | ins C dx fs =>
  obtain⟨d,z,ne,e,mA,⟨od,es,ep,e2,c⟩,r⟩:=x
  exact⟨ho _ d,z,ne,k _ _ (.inl rfl) e,mA,⟨od,es,ep,k _ _ (.inr d) e2,c⟩,r⟩
 | own y=>obtain⟨ob,e⟩:=x;exact⟨ob,k _ _ (.inl rfl) e⟩
 | xd fs=>obtain⟨mA,⟨od,es,ep,e,c⟩,r⟩:=x;exact⟨mA,⟨od,es,ep,k _ _ (.inl rfl) e,c⟩,r⟩
 | rng lo hi=>obtain⟨t,u,v,e⟩:=x;exact⟨t,u,v,k _ _ (.inl rfl) e⟩
 | je ob u ih=>obtain⟨e,q⟩:=x;exact⟨k _ _ (.inl rfl) e,ih q⟩
 | tbl ps =>
  have e:=x
  exact k a _ (.inl rfl) e
 | met f y =>
  have e:=x
  exact k a _ (.inl rfl) e
 | ext φ =>obtain⟨p,⟨o,e⟩,st⟩:=x;exact⟨st _ _ p λo q=>k _ _ (.inl rfl) q,⟨o,k _ _ (.inl rfl) e⟩,st⟩
theorem jE.lt(x:jE P w H h)(e:H a=TK o):a < h.objs.size:=(x a o e).lt
theorem jE.fresh(x:jE P w H h)(e:h.objs.size<=a):H a=TL:=by
 cases q:H a with
 | none=>rfl
 | some u=>exact absurd (Ul (x.lt q) e) (U5 _)
theorem jE.kept(x:jE P w H h)(k: ∀ b u,h.get? b=TK u->h'.get? b=TK u):jE P w H h':=λa o e =>
 (x a o e).uM (λb u _ q=>k b u q) (λ_ q=>q) λ_ _ q=>q
theorem jE.laid(x:jE P w H h)(k: ∀ b u,h.get? b=TK u->h'.get? b=TK u)(hp:h.objs.size<=a)(new:bo P w (upd H a o) h' a o):jE P w (upd H a o) h':=λb u e=>by
 have hn:=x.fresh hp;by_cases hb:b=a
 . subst hb;rw[aI] at e;cases e;exact new
 . rw[av hb] at e;exact(x b u e).uM (λc v _ q=>k c v q) (λc q=>by rw[av (aE q hn)];exact q) λc xs q=>by rw[av (aE q hn)];exact q
end
def Rd(H:Hp) a u:=H a=TK u\/ ∃ o,H a=TK (.je o u)
theorem Rd.of{H:Hp}{a:Uj}{u:HO}(h:H a=TK u):Rd H a u:= .inl h
theorem Rd.ok(r:Rd H a u)(x:jE P w H h):bo P w H h a u:=by
 rcases r with r | ⟨o,r⟩
 . exact x a u r
 . obtain⟨_,q⟩:=x a _ r;exact q
def Qi:Option HO->Prop
 | some (.lst _)=>True
 | some (.dK _)=>True
 | some (.dT _)=>True
 | some (.set _ _)=>True
 | some (.ins _ _ _)=>True
 | some (.ext _)=>True
 | _=>False
section
variable{P:UP}{w:U6}{H:Hp}{h h':Vx}{x e:Uj}{o':HO}
theorem jE.write(ok:jE P w H h)(mu:Qi (H x))(he:e=x\/H e=TK (.own x))(k: ∀ b u,b≠e->h.get? b=TK u->h'.get? b=TK u)(heo: ∃ u,h'.get? e=TK u)
  (new:bo P w (upd H x o') h' x o'):jE P w (upd H x o') h':=λb u q=>by
 have nown: ∀ c y,H c=TK (.own y)->c≠x:=λc y r z=>by subst z;rw[r] at mu;exact mu
 have ntup: ∀ c xs,H c=TK (.tup xs)->c≠x:=λc xs r z=>by subst z;rw[r] at mu;exact mu
 by_cases hb:b=x
 . subst hb;rw[aI] at q;cases q;exact new
 . rw[av hb] at q;by_cases hbe:b=e
   . have q':H b=TK (.own x):=by
      rcases he with z | z
      . exact absurd (hbe.trans z) hb
      . rw[hbe];exact z
     rw[q] at q';cases q';obtain⟨v,hv⟩:=heo;exact⟨v,by rw[hbe];exact hv⟩
   . refine(ok b u q).uM (λc v hc r=>k c v ?_ r) (λc r=>by rw[av (nown c b r)];exact r) λc xs r=>by rw[av (ntup c xs r)];exact r
     rcases hc with rfl | hc
     . exact hbe
     . rintro rfl;rcases he with z | z
       . exact nown c b hc z
       . simp_all
end
structure Un(fs ex:List Uj)(H H':Hp)(h h':Vx):Prop where
 keep: ∀ b o,h.get? b=TK o->H b=TL->b ∉ fs->b ∉ ex->h'.get? b=TK o
 slot: ∀ b o,h.get? b=TK o->H b=TL->b∈fs->b ∉ ex-> ∃ sl,h'.get? b=TK { o with slots:=sl}
 free: ∀ b o,h.get? b=TK o->H b=TL->b ∉ ex->H' b=TL
 there: ∀ b o,h.get? b=TK o->b ∉ ex-> ∃ o',h'.get? b=TK o'
 kA: ∀ b xs,H b=TK (.tup xs)->H' b=TK (.tup xs)
 jO: ∀ b o u,H b=TK (.je o u)->H' b=TK (.je o u)
 mB: ∀ b ps,H b=TK (.tbl ps)-> ∃ more,H' b=TK (.tbl (ps++more))
section
variable{fs fs' ex ex':List Uj}{H H1 H2:Hp}{h h1 h2 h':Vx}{a x e:Uj}{o:HO}
theorem Un.any(u:Un fs ex H H1 h h1)(q:h.get? b=TK ob)(n:H b=TL)(hx:b ∉ ex): ∃ sl,h1.get? b=TK { ob with slots:=sl}:=by
 by_cases hb:b∈fs
 . exact u.slot b ob q n hb hx
 . exact⟨ob.slots,u.keep b ob q n hb hx⟩
theorem Un.trans(a:Un fs ex H H1 h h1)(b:Un fs ex H1 H2 h1 h2):Un fs ex H H2 h h2 where
 keep:=λc ob q n hc hx=>b.keep c ob (a.keep c ob q n hc hx) (a.free c ob q n hx) hc hx
 slot:=λc ob q n hc hx=>by
  obtain⟨sl,e1⟩:=a.slot c ob q n hc hx;obtain⟨sl',e2⟩:=b.slot c _ e1 (a.free c ob q n hx) hc hx;exact⟨sl',e2⟩
 free:=λc ob q n hx=>by
  obtain⟨o',e1⟩:=a.there c ob q hx;exact b.free c o' e1 (a.free c ob q n hx) hx
 there:=λc ob q hx=>by
  obtain⟨o',e1⟩:=a.there c ob q hx;exact b.there c o' e1 hx
 kA:=λc xs q=>b.kA c xs (a.kA c xs q)
 jO:=λc ob xs q=>b.jO c ob xs (a.jO c ob xs q)
 mB:=λc ps q=>by
  obtain⟨m1,e1⟩:=a.mB c ps q;obtain⟨m2,e2⟩:=b.mB c _ e1;exact⟨m1++m2,by rw[e2,XX]⟩
theorem Un.kept(k: ∀ b u,h.get? b=TK u->h'.get? b=TK u):Un fs ex H H h h' :=
 ⟨λb ob q _ _ _=>k b ob q,λb ob q _ _ _=>⟨ob.slots,k b ob q⟩,λ_ _ _ n _=>n,λb ob q _=>⟨ob,k b ob q⟩,λ_ _ q=>q,λ_ _ _ q=>q,λ_ ps q=>⟨#[],by simp_all⟩⟩
theorem Un.refl:Un fs ex H H h h:=Un.kept λ_ _ q=>q
theorem Un.laid(k: ∀ b u,h.get? b=TK u->h'.get? b=TK u)(hp:h.objs.size<=a)(hn:H a=TL):Un fs ex H (upd H a o) h h' where
 keep:=λb u q _ _ _=>k b u q
 slot:=λb u q _ _ _=>⟨u.slots,k b u q⟩
 free:=λb u q n _=>by rw[av (UN (Ul (Uk q) hp))];exact n
 there:=λb u q _=>⟨u,k b u q⟩
 kA:=λb xs q=>by rw[av (aE q hn)];exact q
 jO:=λb u xs q=>by rw[av (aE q hn)];exact q
 mB:=λb ps q=>⟨#[],by rw[av (aE q hn),q];simp⟩
theorem Un.write(mu:Qi (H x))(he:e=x\/H e=TK (.own x))(k: ∀ b u,b≠e->h.get? b=TK u->h'.get? b=TK u)(heo: ∃ u,h'.get? e=TK u):Un fs ex H (upd H x o) h h':=by
 have hx: ∀ b,H b=TL->b≠x:=λb n z=>by subst z;rw[n] at mu;exact mu
 have hb: ∀ b,H b=TL->b≠e:=λb n z=>by
  simp_all
 have hm: ∀ b u,H b=TK u-> ¬ Qi (TK u)->b≠x:=λb u q nm z=>by simp_all
 refine⟨λb u q n _ _=>k b u (hb b n) q,λb u q n _ _=>⟨u.slots,k b u (hb b n) q⟩,λb u q n _=>by rw[av (hx b n)];exact n,λb u q _=>?_,
  λb xs q=>by rw[av (hm b _ q λz=>z)];exact q,λb u xs q=>by rw[av (hm b _ q λz=>z)];exact q,λb ps q=>⟨#[],by rw[av (hm b _ q λz=>z),q];simp⟩⟩
 by_cases hbe:b=e
 . simp_all
 . exact⟨u,k b u hbe q⟩
end
noncomputable def QU(h:Vx)(H:Hp):=(VY h.objs.size).filter λa=>(H a).isSome
def tX h H:=PySem.W.hideAll h (QU h H)
theorem yf h H:(tX h H).objs.size=h.objs.size:=PySem.W.hideAll_size _ _
theorem BG{h:Vx}{H:Hp}{b:Uj}{o:Obj}(e:h.get? b=TK o)(n:H b=TL):(tX h H).get? b=TK o :=
 PySem.W.hideAll_get _ e λhm=>by
  have q:=(aaQ.mp hm).2;rw[n] at q;simp at q
theorem E2(e:(tX h H).get? b=TK o):h.get? b=TK o/\H b=TL:=by
 have e':=PySem.W.of_hideAll (QU h H) e;refine⟨e',?_⟩;cases q:H b with
 | none=>rfl
 | some x =>
  have hm:b∈QU h H:=aaQ.mpr ⟨Zt.mpr (Uk e'),by simp[q]⟩
  have z:(tX h H).get? b=TL:=PySem.W.hideAll_none (QU h H) hm
  rw[z] at e;cases e
noncomputable def FW(g h:Vx) L:=(VY h.objs.size).filterMap λa=>if a=L\/(g.get? a).isSome=true then TL else(h.get? a).map λo=>(a,o)
def rest g h L d:=(FW g h L).filter λp=>decide (p.1≠d)
structure Mod(K:TQ)(mg:Str->Option TY)(base:Vx):Prop where
 ND:K.In base
 glob:base.Ns UL mg
 blt: ∃ mb,base.Ns builtinsNs mb/\ ∀ x:Str,x≠ "__name__" ->mb x=Vy x
 nolimit:base.NoLimit
structure Cx where
 prog:UP
 w:U6
 K:TQ
 mg:Str->Option TY
 base:Vx
 A:Vk
 N:List Str
 s₀ :Ua
 H₀ :Hp
 env:Env
 outer:List Env
 stack:List Env
 ex:List Uj
 fn:Str->Bool
 calm:Bool
 pn:List (Uj × Obj)
 xe:TY->Ua->Prop
noncomputable def zq(l:List Env):=l.filterMap (·.frame)
abbrev Cx.fs(X:Cx):List Uj:=zq X.outer
def Il(sc:XY) x:=sc.names.lookup x=TK .local\/sc.names.lookup x=TK .cell\/sc.names.lookup x=TK .free
def Loc(sc:XY) x:=sc.names.lookup x=TK .local\/sc.names.lookup x=TK .cell
def Look(env:Env)(h:Vx)(m:Str->Option TY) x (u:TY) :=
 (env.kindOf x=TK .local/\m x=TK u)\/((env.kindOf x=TK .cell\/env.kindOf x=TK .free)/\ ∃ c,env.cells.lookup x=TK c/\h.IsCell c (TK u))
structure Cx.Ok(X:Cx):Prop where
 mod:Mod X.K X.mg X.base
 kind:X.env.scope.kind= .function
 glob:X.env.globals=UL
 blt:X.env.builtins=builtinsNs
 above:X.s₀.heap.objs.size<=X.env.locals
 inj: ∀ x y c,X.env.cells.lookup x=TK c->X.env.cells.lookup y=TK c->x=y
 has: ∀ x,(X.env.kindOf x=TK .cell\/X.env.kindOf x=TK .free)-> ∃ c,X.env.cells.lookup x=TK c
 Nf: ∀ x c,X.fn x=true->X.env.cells.lookup x=TK c->X.s₀.heap.objs.size<=c
 hd:X.calm=true->X.A.handled=TL
 frames:X.A.frames=TK X.stack
 OY:X.stack=X.outer\/(X.stack=X.env::X.outer/\X.env.frame=TK X.env.locals)
 R5: ∀ b∈X.ex,b≠X.env.locals/\ ∀ x c,X.env.cells.lookup x=TK c->c≠b
 bs: ∀ b o,X.base.get? b=TK o->X.s₀.heap.get? b=TK o/\X.H₀ b=TL
 Bc:X.base.objs.size<=X.s₀.heap.objs.size
 yV: ∀ b o,X.base.get? b=TK o->b ∉ X.ex
 Cr: ∀ b∈X.ex,b ∉ X.fs
 ki:X.s₀.heap.FunFrames X.base X.outer
 E7: ∀ b∈X.fs,X.H₀ b=TL
structure Inv(X:Cx)(pins:List (Uj × Obj))(σ :List (Option V))(H:Hp)(s:Ua):Prop where
 ok:X.Ok
 os:s.os=X.s₀.os
 bare:Yi s.gens
 base:Un X.fs X.ex X.H₀ H X.s₀.heap s.heap
 loc: ∃ m,s.heap.Ns X.env.locals m/\ ∀(i:Nat)(x:Str)(v:V),X.N[i]?=TK x-> σ[i]?=TK (TK v)->Il X.env.scope x-> ∃ u,RelV v u/\Look X.env s.heap m x u
 cell: ∀ x c,X.env.cells.lookup x=TK c-> ∃ v,s.heap.IsCell c v
 free:H X.env.locals=TL
 iE: ∀ x c,X.env.cells.lookup x=TK c->H c=TL
 pin: ∀ p∈X.pn++pins,s.heap.get? p.1=TK p.2/\H p.1=TL/\p.1≠X.env.locals/\p.1 ∉ X.fs/\ ∀ v,p.2.data≠ .cell v
 bx:jE X.prog X.w H s.heap
 len: σ.length=X.N.length
section
variable{X:Cx}{pins:List (Uj × Obj)}{σ :List (Option V)}{H H':Hp}{s:Ua}{h':Vx}
theorem Cx.Ok.RW(ok:X.Ok)(e:X.base.get? b=TK o):b ∉ X.fs:=λhb=>by
 have:=(ok.ki.mem hb).1;rw[e] at this;cases this
theorem Inv.bs(I:Inv X pins σ H s): ∀ b o,X.base.get? b=TK o->s.heap.get? b=TK o/\H b=TL:=λb o e =>
 ⟨I.base.keep b o (I.ok.bs b o e).1 (I.ok.bs b o e).2 (I.ok.RW e) (I.ok.yV b o e),I.base.free b o (I.ok.bs b o e).1 (I.ok.bs b o e).2 (I.ok.yV b o e)⟩
theorem Inv.bk(I:Inv X pins σ H s): ∀ b o,X.base.get? b=TK o->s.heap.get? b=TK o:=λb o e=>(I.bs b o e).1
theorem Inv.mod(I:Inv X pins σ H s):Mod X.K X.mg X.base:=I.ok.mod
theorem Inv.ib(I:Inv X pins σ H s):X.K.In s.heap:=I.ok.mod.ND.keeps I.bk
theorem Inv.nolimit(I:Inv X pins σ H s):s.heap.NoLimit:=I.ok.mod.nolimit.keeps I.bk
theorem Inv.fr(I:Inv X pins σ H s): ∃ m,Fr X.base X.env.locals s.heap m :=
 by obtain⟨m,hn,_⟩:=I.loc;exact⟨m,hn,I.bk,UQ I.ok.Bc I.ok.above⟩
theorem Inv.lt(I:Inv X pins σ H s):X.env.locals < s.heap.objs.size:=by obtain⟨_,hn,_⟩:=I.loc;exact hn.lt
theorem Inv.sz(I:Inv X pins σ H s):X.s₀.heap.objs.size<=s.heap.objs.size:=UQ I.ok.above (YO I.lt)
theorem Inv.OD(I:Inv X pins σ H s){a:Uj}(h:s.heap.objs.size<=a):a ∉ X.fs:=λhb=>by
 obtain⟨_,o,ho,_⟩:=I.ok.ki.mem hb;exact absurd (Ul (Uk ho) (UQ I.sz h)) (U5 _)
theorem Inv.IW(I:Inv X pins σ H s): ∀ x c,X.env.cells.lookup x=TK c->c≠X.env.locals:=λx c e z=>by
 obtain⟨v,o,ho,hd⟩:=I.cell x c e;obtain⟨m,⟨o',es,ep,ho',hd',_⟩,_⟩:=I.loc;rw[z,ho'] at ho;cases ho;rw[hd'] at hd;cases hd
theorem Inv.ki(I:Inv X pins σ H s):s.heap.FunFrames X.base X.outer:=by
 have all: ∀ l,(∀ b∈zq l,b∈X.fs)->X.s₀.heap.FunFrames X.base l->s.heap.FunFrames X.base l:=by
  intro l
  induction l with
  | nil=>intro _ _;trivial
  | cons env r ih =>
   intro hs hl
   obtain⟨hk,⟨L,o,hf,hn,ho,hd⟩,hr⟩:=hl
   have hL:=hs L (by unfold zq;rw[XJ,hf];exact Ug)
   obtain⟨sl,e⟩:=I.base.slot L o ho (I.ok.E7 L hL) hL λz=>I.ok.Cr L z hL
   exact⟨hk,⟨L,_,hf,hn,e,hd⟩,ih (λb hb=>hs b (by unfold zq;rw[XJ,hf];exact T7 _ hb)) hr⟩
 exact all X.outer (λ_ hb=>hb) I.ok.ki
theorem Inv.stack(I:Inv X pins σ H s):s.heap.FunFrames X.base X.stack:=by
 rcases I.ok.OY with e | ⟨e,hf⟩
 . rw[e];exact I.ki
 . rw[e];obtain⟨m,hn,_⟩:=I.loc;refine .cons (by rw[I.ok.kind];decide) hf hn ?_ I.ki;exact Heap.get?_none_of_le (UQ I.ok.Bc I.ok.above)
theorem Inv.lG(I:Inv X pins σ H s): ∀ b∈zq X.stack,b∈X.env.locals::X.fs:=λb hb=>by
 rcases I.ok.OY with e | ⟨e,hf⟩
 . rw[e] at hb;exact T7 _ hb
 . rw[e] at hb;unfold zq at hb;rw[XJ,hf] at hb;exact hb
theorem Inv.w9(I:Inv X pins σ H s): ∀ b∈zq X.stack,H b=TL:=λb hb=>by
 rcases Uh.mp (I.lG b hb) with e | hb
 . rw[e];exact I.free
 . obtain⟨_,o,ho,_⟩:=I.ok.ki.mem hb;exact I.base.free b o ho (I.ok.E7 b hb) λz=>I.ok.Cr b z hb
theorem Inv.step{ch:List Uj}(I:Inv X pins σ H s)
  (hch: ∀ b∈ch,(b∈X.ex\/X.s₀.heap.objs.size<=b)/\b≠X.env.locals/\(∀ x c,X.env.cells.lookup x=TK c->c≠b)/\ ∀ p∈X.pn++pins,p.1≠b)
  (keep: ∀ b o,b≠X.env.locals->b ∉ X.fs->b ∉ ch->s.heap.get? b=TK o->H b=TL->h'.get? b=TK o)
  (slot: ∀ b o,b≠X.env.locals->b∈X.fs->b ∉ ch->s.heap.get? b=TK o->H b=TL-> ∃ sl,h'.get? b=TK { o with slots:=sl}) (free: ∀ b o,b ∉ ch->s.heap.get? b=TK o->H b=TL->H' b=TL)
  (there: ∀ b o,b ∉ ch->s.heap.get? b=TK o-> ∃ o',h'.get? b=TK o')
  (kA: ∀ b xs,H b=TK (.tup xs)->H' b=TK (.tup xs)) (jO: ∀ b o u,H b=TK (.je o u)->H' b=TK (.je o u)) (mB: ∀ b ps,H b=TK (.tbl ps)-> ∃ more,H' b=TK (.tbl (ps++more)))
  (ns: ∀ m,s.heap.Ns X.env.locals m->h'.Ns X.env.locals m) (bx:jE X.prog X.w H' h') (hg:Yi g') :
  Inv X pins σ H' { s with heap:=h',gens:=g',drawn:=d',toks:=t'}:=by
 have neL: ∀ b o,X.s₀.heap.get? b=TK o->b≠X.env.locals:=λb o e=>UN (Ul (Uk e) I.ok.above);have neC: ∀ b o,X.s₀.heap.get? b=TK o->b ∉ X.ex->b ∉ ch:=λb o e hx hb=>by
  rcases(hch b hb).1 with z | z
  . exact hx z
  . exact absurd (Ul (Uk e) z) (U5 _)
 have cellK: ∀ x c,X.env.cells.lookup x=TK c-> ∀ v,s.heap.IsCell c v->h'.IsCell c v:=λx c e v ⟨o,ho,hd⟩=>by
  have nch:=λz=>(hch c z).2.2.1 x c e rfl;by_cases hc:c∈X.fs
  . obtain⟨sl,q⟩:=slot c o (I.IW x c e) hc nch ho (I.iE x c e);exact⟨_,q,hd⟩
  . exact⟨o,keep c o (I.IW x c e) hc nch ho (I.iE x c e),hd⟩
 refine⟨I.ok,I.os,hg,⟨λb o e n hb hx=>?_,λb o e n hb hx=>?_,λb o e n hx=>?_,λb o e hx=>?_,λb xs e=>kA b xs (I.base.kA b xs e),λb o xs e=>jO b o xs (I.base.jO b o xs e),λb ps e=>?_⟩,?_,λx c e=>?_,?_,λx c e=>?_,λp hp=>?_,bx,I.len⟩
 . exact keep b o (neL b o e) hb (neC b o e hx) (I.base.keep b o e n hb hx) (I.base.free b o e n hx)
 . obtain⟨sl,e1⟩:=I.base.slot b o e n hb hx;obtain⟨sl',e2⟩:=slot b _ (neL b o e) hb (neC b o e hx) e1 (I.base.free b o e n hx);exact⟨sl',e2⟩
 . obtain⟨o',e1⟩:=I.base.there b o e hx;exact free b o' (neC b o e hx) e1 (I.base.free b o e n hx)
 . obtain⟨o',e1⟩:=I.base.there b o e hx;exact there b o' (neC b o e hx) e1
 . obtain⟨m1,e1⟩:=I.base.mB b ps e;obtain⟨m2,e2⟩:=mB b _ e1;exact⟨m1++m2,by rw[e2,XX]⟩
 . obtain⟨m,hn,hl⟩:=I.loc;refine⟨m,ns m hn,λi x v e1 e2 e3=>?_⟩;obtain⟨u,r,l⟩:=hl i x v e1 e2 e3;refine⟨u,r,?_⟩;rcases l with l | ⟨k,c,e,z⟩
   . exact .inl l
   . exact .inr ⟨k,c,e,cellK x c e _ z⟩
 . obtain⟨v,z⟩:=I.cell x c e;exact⟨v,cellK x c e v z⟩
 . obtain⟨m,⟨o,_,_,ho,_⟩,_⟩:=I.loc;exact free _ o (λz=>(hch _ z).2.1 rfl) ho I.free
 . obtain⟨v,o,ho,hd⟩:=I.cell x c e;exact free c o (λz=>(hch c z).2.2.1 x c e rfl) ho (I.iE x c e)
 . obtain⟨e,n,ne,nf,d⟩:=I.pin p hp;have nch:=λz=>(hch p.1 z).2.2.2 p hp rfl;exact⟨keep p.1 p.2 ne nf nch e n,free p.1 p.2 nch e n,ne,nf,d⟩
theorem Inv.un(I:Inv X pins σ H s)(u:Un X.fs [] H H' s.heap h')(bx:jE X.prog X.w H' h'):Inv X pins σ H' { s with heap:=h',toks:=t'}:=by
 obtain⟨m,⟨o,es,ep,ho,r⟩,_⟩:=id I.loc;obtain⟨sl,hL⟩:=u.any ho I.free (by simp);exact I.step (g':=s.gens) (d':=s.drawn) (ch:=[]) (λ_ z=>by cases z) (λb o _ hb _ e n=>u.keep b o e n hb (by simp)) (λb o _ hb _ e n=>u.slot b o e n hb (by simp)) (λb o _ e n=>u.free b o e n (by simp)) (λb o _ e=>u.there b o e (by simp)) u.kA u.jO u.mB (λm' hm=>by
  obtain⟨o',es',ep',ho',r'⟩:=hm;rw[ho] at ho';cases ho';exact⟨_,es',ep',hL,r'⟩) bx I.bare
theorem Inv.call(I:Inv X pins σ H s)(u:Un (zq X.stack) ch H H' s.heap h')(bx:jE X.prog X.w H' h')(hg:Yi g')
  (hch: ∀ b∈ch,(b∈X.ex\/X.s₀.heap.objs.size<=b)/\b≠X.env.locals/\(∀ x c,X.env.cells.lookup x=TK c->c≠b)/\ ∀ p∈X.pn++pins,p.1≠b) :
  Inv X pins σ H' { s with heap:=h',gens:=g',drawn:=d',toks:=t'}:=by
 obtain⟨m,⟨o,es,ep,ho,r⟩,_⟩:=id I.loc;obtain⟨sl,hL⟩:=u.any ho I.free λz=>(hch _ z).2.1 rfl;exact I.step (ch:=ch) hch (λb o hL hb hc e n=>u.keep b o e n (λz=>(Uh.mp (I.lG b z)).elim hL hb) hc) (λb o _ _ hc e n=>u.any e n hc) (λb o hc e n=>u.free b o e n hc) (λb o hc e=>u.there b o e hc) u.kA u.jO u.mB (λm' hm=>by
  obtain⟨o',es',ep',ho',r'⟩:=hm;rw[ho] at ho';cases ho';exact⟨_,es',ep',hL,r'⟩) bx hg
theorem Inv.turned(I:Inv X pins σ H s)(k: ∀ b o,b≠it->s.heap.get? b=TK o->h'.get? b=TK o)(hn:H it=TL)(hL:it≠X.env.locals)
  (h1:it∈X.ex\/X.s₀.heap.objs.size<=it) (h2: ∀ x c,X.env.cells.lookup x=TK c->c≠it) (h3: ∀ p∈X.pn++pins,p.1≠it):Inv X pins σ H { s with heap:=h',toks:=t'}:=by
 have nit: ∀ b u,H b=TK u->b≠it:=λb u e z=>by simp_all
 refine I.step (g':=s.gens) (d':=s.drawn) (ch:=[it]) (λb hb=>?_) (λb o _ _ hc e _=>k b o (λz=>hc (by simp[z])) e) (λb o _ _ hc e _=>⟨o.slots,k b o (λz=>hc (by simp[z])) e⟩) (λ_ _ _ _ n=>n)
  (λb o hc e=>⟨o,k b o (λz=>hc (by simp[z])) e⟩) (λ_ _ e=>e) (λ_ _ _ e=>e) (λb ps e=>⟨#[],by simp_all⟩) (λm hm=>?_) (λb u e=>?_) I.bare
 . have e:b=it:=by simpa using hb
   subst e;exact⟨h1,hL,h2,h3⟩
 . obtain⟨o,es,ep,ho,r⟩:=hm;exact⟨o,es,ep,k _ o (VI hL) ho,r⟩
 . refine(I.bx b u e).uM (λc v hc q=>k c v ?_ q) (λ_ q=>q) λ_ _ q=>q;rcases hc with z | z
   . rw[z];exact nit b u e
   . exact nit c _ z
theorem Inv.tok(I:Inv X pins σ H s) t:Inv X pins σ H { s with toks:=t}:=I.un (h':=s.heap) (t':=t) Un.refl I.bx
theorem Inv.kept(I:Inv X pins σ H s)(k: ∀ b u,s.heap.get? b=TK u->h'.get? b=TK u):Inv X pins σ H { s with heap:=h',toks:=t'}:=I.un (Un.kept k) (I.bx.kept k)
theorem Inv.laid{a:Uj}(I:Inv X pins σ H s)(k: ∀ b u,s.heap.get? b=TK u->h'.get? b=TK u)(hp:s.heap.objs.size<=a)(new:bo X.prog X.w (upd H a o) h' a o) :
  Inv X pins σ (upd H a o) { s with heap:=h',toks:=t'}:=I.un (Un.laid k hp (I.bx.fresh hp)) (I.bx.laid k hp new)
theorem Inv.write(I:Inv X pins σ H s)(mu:Qi (H x))(he:e=x∨H e=TK (.own x))(k: ∀ b u,b≠e->s.heap.get? b=TK u->h'.get? b=TK u)(heo: ∃ u,h'.get? e=TK u)
  (new:bo X.prog X.w (upd H x o) h' x o):Inv X pins σ (upd H x o) { s with heap:=h',toks:=t'}:=I.un (Un.write mu he k heo) (I.bx.write mu he k heo new)
theorem Inv.weak(I:Inv X pins σ H s)(hl: σ'.length= σ.length)(w: ∀ (i:Nat) v, σ'[i]?=TK (TK v)-> σ[i]?=TK (TK v)):Inv X pins σ' H s :=
 ⟨I.ok,I.os,I.bare,I.base,by obtain ⟨m,hn,hl'⟩:=I.loc;exact ⟨m,hn,λi x v e1 e2 e3=>hl' i x v e1 (w i v e2) e3⟩,I.cell,I.free,I.iE,I.pin,I.bx,hl.trans I.len⟩
theorem Inv.i9(I:Inv X pins σ H s)(h: ∀ p∈pins',s.heap.get? p.1=TK p.2∧H p.1=TL∧p.1≠X.env.locals∧p.1 ∉ X.fs∧ ∀ v,p.2.data≠ .cell v):Inv X pins' σ H s :=
 ⟨I.ok,I.os,I.bare,I.base,I.loc,I.cell,I.free,I.iE,λp hp=>(Uz.mp hp).elim (λz=>I.pin p (Wh _ z)) (h p),I.bx,I.len⟩
theorem tJ{N:List Str}(hN:N.Nodup){ j:Nat}(a:N[i]?=TK x)(b:N[j]?=TK x):i=j:=by
 obtain⟨h1,e1⟩:=TR.mp a;obtain⟨h2,e2⟩:=TR.mp b;exact(List.getElem_inj hN).mp (e1.trans e2.symm)
theorem qS{M:Model}{A:Vk}{E:TY->Ua->Prop}{i:Nat}{x:Str}{v:V}{u:TY}{Q:Unit->Ua->Prop}(I:Inv X pins σ H s)(hN:X.N.Nodup)(hi:X.N[i]?=TK x)(hx:Loc X.env.scope x)(r:RelV v u)
  (h: ∀ s',Inv X pins (σ.set i (TK v)) H s'->(∃ a,Xg a s.heap s'.heap/\(a=X.env.locals\/X.env.cells.lookup x=TK a))->Q () s') (hf:X.fn x=true\/X.env.scope.names.lookup x=TK .local:=by first | exact .inl rfl | exact .inr rfl | assumption):Ur M A (storeName X.env x u) Q E s:=by
 obtain⟨m,hn,hl⟩:=id I.loc;have hcls:(X.env.scope.kind == .class||(X.env.scope.kind == .module&&X.env.locals !=X.env.globals))=false:=by rw[I.ok.kind];rfl
 have hiσ :i < σ.length:=by rw[I.len];exact(TR.mp hi).1
 have IW:=I.IW;have tracked: ∀{a:Uj}{h':Vx},(∃ o,s.heap.get? a=TK o/\H a=TL)->Xg a s.heap h'->jE X.prog X.w H h':=λ{a h'} ha hs b ob e=>by
  obtain⟨_,_,hfree⟩:=ha;refine(I.bx b ob e).uM (λc w' hc q=>(hs.2 c ?_).trans q) (λ_ q=>q) λ_ _ q=>q;rintro rfl;rcases hc with rfl | hc
  . simp_all
  . simp_all
 rcases hx with hk | hk
 . refine wpAny_storeName_local hk hn (λh' hn' hs=>?_) hcls;obtain⟨oL,_,_,hoL,_⟩:=id hn;refine h _ ⟨I.ok,I.os,I.bare,⟨λb o e n hb hx=>?_,λb o e n hb hx=>?_,I.base.free,λb o e hx=>?_,I.base.kA,I.base.jO,I.base.mB⟩,⟨_,hn',λj y v' e1 e2 e3=>?_⟩,λy c e=>?_,I.free,I.iE,λp hp=>?_,tracked ⟨oL,hoL,I.free⟩ hs,by simpa using I.len⟩ ⟨_,hs,.inl rfl⟩
   . exact(hs.2 b (UN (Ul (Uk e) I.ok.above))).trans (I.base.keep b o e n hb hx)
   . obtain⟨sl,e1⟩:=I.base.slot b o e n hb hx;exact⟨sl,(hs.2 b (UN (Ul (Uk e) I.ok.above))).trans e1⟩
   . obtain⟨o',e1⟩:=I.base.there b o e hx;exact⟨o',(hs.2 b (UN (Ul (Uk e) I.ok.above))).trans e1⟩
   . by_cases hj:j=i
     . subst hj;rw[hi] at e1;cases e1;rw[Us hiσ] at e2;cases e2;exact⟨u,r,.inl ⟨hk,by simp⟩⟩
     . rw[Um (VI hj)] at e2;obtain⟨u',r',q⟩:=hl j y v' e1 e2 e3;refine⟨u',r',?_⟩;rcases q with⟨k,e⟩ | ⟨k,c,e,z⟩
       . refine .inl ⟨k,?_⟩;have:y≠x:=λe=>hj (tJ hN e1 (e ▸ hi));simp[this,e]
       . exact .inr ⟨k,c,e,z.sameBut hs (IW y c e)⟩
   . obtain⟨w',z⟩:=I.cell y c e;exact⟨w',z.sameBut hs (IW y c e)⟩
   . obtain⟨e,n,ne,nf,d⟩:=I.pin p hp;exact⟨(hs.2 p.1 ne).trans e,n,ne,nf,d⟩
 . have hfn:X.fn x=true:=by
    simp_all
   obtain⟨c,hc⟩:=I.ok.has x (.inl hk);obtain⟨w',z⟩:=I.cell x c hc;refine wpAny_storeName_cell I.ok.kind hk hc z (λh' hc' hs=>?_);obtain⟨oc,hoc,hocd⟩:=id z;refine h { s with heap:=h'} ⟨I.ok,I.os,I.bare,⟨λb o e n hb hx=>?_,λb o e n hb hx=>?_,I.base.free,λb o e hx=>?_,I.base.kA,I.base.jO,I.base.mB⟩,⟨m,hn.sameBut hs (VI (IW x c hc)),λj y v' e1 e2 e3=>?_⟩,λy c' e=>?_,I.free,I.iE,λp hp=>?_,tracked ⟨oc,hoc,I.iE x c hc⟩ hs,by simpa using I.len⟩ ⟨c,hs,.inr hc⟩
   . exact(hs.2 b (UN (Ul (Uk e) (I.ok.Nf x c hfn hc)))).trans (I.base.keep b o e n hb hx)
   . obtain⟨sl,e1⟩:=I.base.slot b o e n hb hx;exact⟨sl,(hs.2 b (UN (Ul (Uk e) (I.ok.Nf x c hfn hc)))).trans e1⟩
   . obtain⟨o',e1⟩:=I.base.there b o e hx;exact⟨o',(hs.2 b (UN (Ul (Uk e) (I.ok.Nf x c hfn hc)))).trans e1⟩
   . by_cases hj:j=i
     . subst hj;rw[hi] at e1;cases e1;rw[Us hiσ] at e2;cases e2;exact⟨u,r,.inr ⟨.inl hk,c,hc,hc'⟩⟩
     . rw[Um (VI hj)] at e2;obtain⟨u',r',q⟩:=hl j y v' e1 e2 e3;refine⟨u',r',?_⟩;rcases q with q | ⟨k,c',e,z'⟩
       . exact .inl q
       . refine .inr ⟨k,c',e,z'.sameBut hs ?_⟩;rintro rfl;exact hj (tJ hN e1 (I.ok.inj _ _ _ e hc ▸ hi))
   . by_cases hcc:c'=c
     . subst hcc;exact⟨_,hc'⟩
     . obtain⟨w2,z2⟩:=I.cell y c' e;exact⟨w2,z2.sameBut hs hcc⟩
   . obtain⟨e,n,ne,nf,d⟩:=I.pin p hp;refine⟨(hs.2 p.1 ?_).trans e,n,ne,nf,d⟩;intro q;rw[q,hoc] at e;have q':=U0 e;exact d w' (by rw[<- q'];exact hocd)
theorem tw{M:Model}{A:Vk}{E:TY->Ua->Prop}{i:Nat}{x:Str}{v:V}{u:TY}{Q:Unit->Ua->Prop}(I:Inv X pins σ H s)(hN:X.N.Nodup)(hi:X.N[i]?=TK x)(hx:Loc X.env.scope x)(r:RelV v u)
  (h: ∀ s',Inv X pins (σ.set i (TK v)) H s'->Q () s') (hf:X.fn x=true\/X.env.scope.names.lookup x=TK .local:=by first | exact .inl rfl | exact .inr rfl | assumption):Ur M A (storeName X.env x u) Q E s :=
 qS I hN hi hx r (λs' I' _=>h s' I') hf
theorem Inv.Qa(I:Inv X pins σ H s)(ho:s'.os=s.os)(u:Un (zq X.stack) ch H H' s.heap s'.heap)(bx:jE X.prog X.w H' s'.heap)(hg:Yi s'.gens)
  (hch: ∀ b∈ch,(b∈X.ex\/X.s₀.heap.objs.size<=b)/\b≠X.env.locals/\(∀ x c,X.env.cells.lookup x=TK c->c≠b)/\ ∀ p∈X.pn++pins,p.1≠b):Inv X pins σ H' s':=by
 obtain⟨h',g',d',t',o'⟩:=s';have e:=ho;subst e;exact I.call (g':=g') (t':=t') (d':=d') u bx hg hch
end
abbrev XK:=TY->Option Uj->Hp->Prop
abbrev St:=List (Option V)
abbrev VK:=V->Hp->Prop
abbrev TE:=St->Hp->VK->Prop
abbrev TT:=St->Hp->(Bool->Hp->Prop)->Prop
abbrev TA:=St->Hp->(List V->Hp->Prop)->Prop
structure Ends where
 nx:St->Hp->Prop
 rt:VK
 bk:St->Hp->Prop:=λ_ _=>False
 ct:St->Hp->Prop:=λ_ _=>False
abbrev TS:=Ends->St->Hp->Prop
def EP X (pins:List (Uj × Obj)) (σ :St) (Q:VK) (u:TY) (s':Ua):= ∃ v H',Inv X pins σ H' s'/\RelV v u/\Q v H'
def TP X (pins:List (Uj × Obj)) (σ :St) (Q:Bool->Hp->Prop) b (s':Ua):= ∃ H',Inv X pins σ H' s'/\Q b H'
def AP X (pins:List (Uj × Obj)) (σ :St) (Q:List V->Hp->Prop) (us:List TY) (s':Ua):= ∃ vs H',Inv X pins σ H' s'/\Vals vs us/\Q vs H'
def SP X (pins:List (Uj × Obj)) (D:Ends) (f:Flow) (s':Ua) :=
 match f with
 | .next=> ∃ σ' H',Inv X pins σ' H' s'/\D.nx σ' H'
 | .brk=> ∃ σ' H',Inv X pins σ' H' s'/\D.bk σ' H'
 | .cont=> ∃ σ' H',Inv X pins σ' H' s'/\D.ct σ' H'
 | .ret u=> ∃ v σ' H',Inv X pins σ' H' s'/\RelV v u/\D.rt v H'
def PE X e (t:TE) :=
 ∀ pins s(σ :St) H Q,Inv X pins σ H s->t σ H Q->Ur (Uu X.prog X.w) X.A (Vl e X.env) (EP X pins σ Q) X.xe s
def PT X e (t:TT) :=
 ∀ pins s(σ :St) H Q,Inv X pins σ H s->t σ H Q->Ur (Uu X.prog X.w) X.A (aaA e X.env (Vl e X.env)) (TP X pins σ Q) X.xe s
def PW X e (t:TT) :=
 ∀ whole pins s(σ :St) H Q,Inv X pins σ H s->t σ H Q->Ur (Uu X.prog X.w) X.A (aaA e X.env whole) (TP X pins σ Q) X.xe s
theorem PW.pt(h:PW X e t):PT X e t:=h _
def PA X (es:List UR) (t:TA) :=
 ∀ pos pins s(σ :St) H Q,Inv X pins σ H s->t σ H Q->Ur (Uu X.prog X.w) X.A (spliced (Wq pos (UH es X.env))) (AP X pins σ Q) X.xe s
def PS X st (t:TS) :=
 ∀ pins s(σ :St) H D,Inv X pins σ H s->t D σ H->Ur (Uu X.prog X.w) X.A (exec st X.env) (SP X pins D) X.xe s
def xj X (st:List Xe) (t:TS) :=
 ∀ pins s(σ :St) H D,Inv X pins σ H s->t D σ H->Ur (Uu X.prog X.w) X.A (execs st X.env) (SP X pins D) X.xe s
theorem eF(h:Ur M A t Q E s)(hQ: ∀ a s,Q a s->Q' a s):Ur M A t Q' E s:=UZ h hQ λ_ _ x=>x
theorem jg(h:Ur M A t (EP X pins σ Q) E s)(k: ∀ u s v H,Inv X pins σ H s->RelV v u->Q v H->Q' u s):Ur M A t Q' E s:=eF h λu s z=>by obtain⟨v,H,a,b,c⟩:=z;exact k u s v H a b c
theorem Ff(h:Ur M A t (AP X pins σ Q) E s)(k: ∀ u s v H,Inv X pins σ H s->Vals v u->Q v H->Q' u s):Ur M A t Q' E s:=eF h λu s z=>by obtain⟨v,H,a,b,c⟩:=z;exact k u s v H a b c
theorem QY(h:Ur M A t (TP X pins σ Q) E s)(k: ∀ u s H,Inv X pins σ H s->Q u H->Q' u s):Ur M A t Q' E s:=eF h λu s z=>by obtain⟨H,a,c⟩:=z;exact k u s H a c
section
variable {X:Cx}
theorem bin(ha : PE X a ta)(hb : PE X b tb){σ : St}{R : V -> V -> Hp -> Prop}(I : Inv X pins σ H s)(h : ta σ H fun x H1 => tb σ H1 fun y H2 => R x y H2)
      {f : Value -> Value -> Sem α}
    (hf : ∀ v u s2 x y H2, Inv X pins σ H2 s2 -> RelV x v -> RelV y u -> R x y H2 -> Ur (Uu X.prog X.w) X.A (f v u) Q X.xe s2) :
    Ur (Uu X.prog X.w) X.A (Vl a X.env) (λv s₁ => Ur (Uu X.prog X.w) X.A (Vl b X.env) (λu s₂ => Ur (Uu X.prog X.w) X.A (f v u) Q X.xe s₂) X.xe s₁) X.xe s := by
  refine jg (ha pins s σ H _ I h) λv s1 x H1 I1 r1 q1 => ?_;refine jg (hb pins s1 σ H1 _ I1 q1) λu s2 y H2 I2 r2 q2 => ?_;exact hf v u s2 x y H2 I2 r1 r2 q2
noncomputable def IB(i:Nat):TE:=fun σ H Q=> ∃ v, σ[i]?=TK (TK v)∧Q v H
noncomputable def tC(v:V):TE:=λ_ H Q=>Q v H
theorem By{pos}(hN:X.N[i]?=TK x)(hv:Il X.env.scope x)(hd:(x == ("__debug__"))=false:=by decide)(hcd:(x == ("__classdict__"))=false:=by decide):PE X (.Name x pos) (IB i):=by
 intro pins s σ H Q I h;obtain⟨v,e,h⟩:=h;obtain⟨m,hn,hl⟩:=I.loc;obtain⟨u,r,l⟩:=hl i x v hN e hv;have fin:EP X pins σ Q u s:=⟨v,H,I,r,h⟩
 rcases l with⟨hk,hm⟩ | ⟨hk,c,hc,hcell⟩
 . exact wpAny_Name (wpAny_loadName_local I.ok.kind hk hn hm fin) hd
 . rcases hk with hk | hk
   . exact wpAny_Name (wpAny_loadName_cell I.ok.kind hk hc hcell fin) hd
   . exact wpAny_Name (wpAny_loadName_free I.ok.kind hk hc hcell fin hcd) hd
theorem IE:PE X (.Constant (.int i) j pos) (tC (.int i)):=λ_ _ _ H _ I h=>wpAny_Constant_int ⟨.int i,H,I.tok _,⟨_,rfl⟩,h⟩
theorem Qw:PE X (.Constant (.bool b) j pos) (tC (.bl b)):=λ_ _ _ H _ I h=>Constant_bool ⟨.bl b,H,I,rfl,h⟩
theorem IG:PE X (.Constant (.str x) j pos) (tC (.str x)):=λ_ _ _ H _ I h=>Z8 ⟨.str x,H,I.tok _,⟨_,rfl⟩,h⟩
def Gl(X:Cx) x:=X.env.kindOf x=TK .globalImplicit
theorem mW{E:TY->Ua->Prop}{pins:List (Uj × Obj)}{s:Ua}{σ :St}{H:Hp}{x:Str}{u:TY}{pos:Pos}{Q:TY->Ua->Prop}(I:Inv X pins σ H s)(hg:Gl X x)(hm:X.mg x=TK u)(h:Q u s)
  (hd:(x == ("__debug__" :Str))=false:=by decide):Ur (Uu X.prog X.w) X.A (Vl (.Name x pos) X.env) Q E s :=
 XZ I.ok.kind hg (Calls.loadGlobal_global (by rw[I.ok.glob];exact I.mod.glob.keeps I.bk) hm h) hd
theorem gO{E:TY->Ua->Prop}{pins:List (Uj × Obj)}{s:Ua}{σ :St}{H:Hp}{x:Str}{u:TY}{pos:Pos}{Q:TY->Ua->Prop}(I:Inv X pins σ H s)(hg:Gl X x)(hm:X.mg x=TL)(hv:Vy x=TK u)(h:Q u s)
  (hn:x≠ "__name__" :=by decide) (hd:(x == ("__debug__" :Str))=false:=by decide):Ur (Uu X.prog X.w) X.A (Vl (.Name x pos) X.env) Q E s:=by
 obtain⟨mb,h1,h2⟩:=I.mod.blt;exact XZ I.ok.kind hg (Calls.loadGlobal_builtin (by rw[I.ok.glob];exact I.mod.glob.keeps I.bk) hm (by rw[I.ok.blt];exact h1.keeps I.bk) ((h2 x hn).trans hv) h) hd
theorem wV(hg:Gl X x)(hm:X.mg x=TK u)(r:RelV v u)(hd:(x == ("__debug__"))=false:=by decide):PE X (.Name x pos) (tC v) :=
 λ_ _ _ H _ I h=>mW I hg hm ⟨v,H,I,r,h⟩ hd
theorem D7{pos}(hg:Gl X x)(hm:X.mg x=TL)(hv:Vy x=TK u)(r:RelV v u)(hn:x≠ "__name__" :=by decide)(hd:(x == ("__debug__"))=false:=by decide):PE X (.Name x pos) (tC v) :=
 λ_ _ _ H _ I h=>gO I hg hm hv ⟨v,H,I,r,h⟩ hn hd
variable{a b:UR}{ta tb:TE}{pos:Pos}
def PC X (op:CmpOp) a b (t:TE) :=
 ∀ pins s(σ :St) H Q,Inv X pins σ H s->t σ H Q ->
  Ur (Uu X.prog X.w) X.A (Vl a X.env) (λv s₁ =>Ur (Uu X.prog X.w) X.A (Vl b X.env) (λu s₂ =>Ur (Uu X.prog X.w) X.A (UJ op v u) (EP X pins σ Q) X.xe s₂) X.xe s₁) X.xe s
theorem sY b (h:op≠ .In) (h2:op≠ .NotIn):U7 op b=false:=by
 have e1:(op == CmpOp.In)=false:=by simp_all
 have e2:(op == CmpOp.NotIn)=false:=by simp_all
 cases b<;>simp[U7,e1,e2]
noncomputable def LJ(ta:TE):TE:=fun σ H Q=>ta σ H λx H1=>Q (.bl (decide (x= .non))) H1
theorem RelV.B8(r:RelV x v):(v == Wx)=decide (x= .non):=by
 cases x with
 | non=>cases r;rfl
 | bl _=>cases r;rfl
 | int _=>obtain⟨t,rfl⟩:=r;rfl
 | str _=>obtain⟨t,rfl⟩:=r;rfl
 | byt _=>obtain⟨t,rfl⟩:=r;rfl
 | flt _=>obtain⟨t,rfl⟩:=r;rfl
 | ref _=>cases r;rfl
 | ty _=>cases r;rfl
theorem zS(ha:PE X a ta):PC X .Is a (.Constant .none j pos') (LJ ta):=by
 intro pins s σ H Q I h;refine jg (ha pins s σ H _ I h) λv s1 x H1 I1 r1 q1=>?_;exact Constant_none (is_none_gen ⟨.bl _,H1,I1,by rw[r1.B8];rfl,q1⟩)
noncomputable def tB(t:TE):TT:=fun σ H Q=>t σ H λx H1=> ∃ c,x= .bl c/\Q c H1
theorem Co(h:PC X op a b t)(h1:U7 op b=false:=by first | exact sY _ (by decide) (by decide) | rfl):PE X (.Compare a [op] [b] pos) t:=λpins s σ H Q I hw=>wpAny_Compare1 (h pins s σ H Q I hw) h1
theorem Ay(h:PC X op a b t)(h1:U7 op b=false:=by first | exact sY _ (by decide) (by decide) | rfl):PT X (.Compare a [op] [b] pos) (tB t):=by
 intro pins s σ H Q I hw;refine Zj (eF (h pins s σ H _ I hw) λv s1 h1=>eF h1 λu s2 h2=>jg h2 λc s3 x H1 I1 r1 q1=>?_) h1;obtain⟨d,rfl,q⟩:=q1;cases r1;exact Vh ⟨H1,I1,q⟩
theorem Jq(h:PE X e t)(he: ∀ whole,aaA e X.env whole=(do let v <- whole;Yj e.pos;WS [v] (truthy v)):=by intro _;rfl):PT X e (tB t):=by
 intro pins s σ H Q I hw;refine isTrue_plain (jg (h pins s σ H _ I hw) λv s1 x H1 I1 r1 q1=>?_) (he _);obtain⟨d,rfl,q⟩:=q1;cases r1;exact Vh ⟨H1,I1,q⟩
variable{tA tB':TT}{rest:List UR}
noncomputable def Oz(t u:TT):TT:=fun σ H Q=>t σ H λc H1=>if c=true then u σ H1 Q else Q false H1
noncomputable def SU(t u:TT):TT:=fun σ H Q=>t σ H λc H1=>if c=true then Q true H1 else u σ H1 Q
noncomputable def Pl(t:TT):TT:=fun σ H Q=>t σ H λc H1=>Q (!c) H1
theorem pw_and1(ha:PT X a tA):PW X (.BoolOp .And [a] pos) tA:=by
 intro wh pins s σ H Q I h;refine isTrue_and (eF (ha pins s σ H Q I h) λc s1 e=>?_);cases c with
 | true=>exact isTrue_and_nil e
 | false=>exact e
theorem pw_or1(ha:PT X a tA):PW X (.BoolOp .Or [a] pos) tA:=by
 intro wh pins s σ H Q I h;refine isTrue_or (eF (ha pins s σ H Q I h) λc s1 e=>?_);cases c with
 | false=>exact isTrue_or_nil e
 | true=>exact e
theorem pw_and(ha:PT X a tA)(hb:PW X (.BoolOp .And (b::rest) pos) tB'):PW X (.BoolOp .And (a::b::rest) pos) (Oz tA tB'):=by
 intro wh pins s σ H Q I h;refine isTrue_and (QY (ha pins s σ H _ I h) λc s1 H1 I1 q1=>?_);cases c with
 | true=>exact hb wh pins s1 σ H1 Q I1 q1
 | false=>exact⟨H1,I1,q1⟩
theorem pw_or(ha:PT X a tA)(hb:PW X (.BoolOp .Or (b::rest) pos) tB'):PW X (.BoolOp .Or (a::b::rest) pos) (SU tA tB'):=by
 intro wh pins s σ H Q I h;refine isTrue_or (QY (ha pins s σ H _ I h) λc s1 H1 I1 q1=>?_);cases c with
 | true=>exact⟨H1,I1,q1⟩
 | false=>exact hb wh pins s1 σ H1 Q I1 q1
theorem IV(ha:PT X a tA):PT X (.UnaryOp .Not a pos) (Pl tA):=by
 intro pins s σ H Q I h;exact isTrue_not (ha pins s σ H (λc H1=>Q (!c) H1) I h)
noncomputable def G9(ta tb:TE):TE:=fun σ H Q=>ta σ H λx H1=> ∃ c,x= .bl c/\if c=true then tb σ H1 Q else Q (.bl false) H1
noncomputable def Qh(ta tb:TE):TE:=fun σ H Q=>ta σ H λx H1=> ∃ c,x= .bl c/\if c=true then Q (.bl true) H1 else tb σ H1 Q
noncomputable def HM(ta:TE):TE:=fun σ H Q=>ta σ H λx H1=> ∃ c,x= .bl c/\Q (.bl (!c)) H1
theorem Kk(h:PE X a t):PE X (.BoolOp op [a] pos) t:=λpins s σ H Q I hw=>BoolOp_one (h pins s σ H Q I hw)
theorem IJ(ha:PE X a ta)(hb:PE X (.BoolOp .And (b::rest) pos) tb):PE X (.BoolOp .And (a::b::rest) pos) (G9 ta tb):=by
 intro pins s σ H Q I h;refine BoolOp_and (jg (ha pins s σ H _ I h) λv s1 x H1 I1 r1 q1=>?_);obtain⟨c,rfl,q1⟩:=q1;cases r1;refine Vh ?_;cases c with
 | true=>exact hb pins s1 σ H1 Q I1 q1
 | false=>exact⟨.bl false,H1,I1,rfl,q1⟩
theorem NJ(ha:PE X a ta)(hb:PE X (.BoolOp .Or (b::rest) pos) tb):PE X (.BoolOp .Or (a::b::rest) pos) (Qh ta tb):=by
 intro pins s σ H Q I h;refine BoolOp_or (jg (ha pins s σ H _ I h) λv s1 x H1 I1 r1 q1=>?_);obtain⟨c,rfl,q1⟩:=q1;cases r1;refine Vh ?_;cases c with
 | false=>exact hb pins s1 σ H1 Q I1 q1
 | true=>exact⟨.bl true,H1,I1,rfl,q1⟩
theorem Jn(ha:PE X a ta):PE X (.UnaryOp .Not a pos) (HM ta):=by
 intro pins s σ H Q I h;refine UnaryOp_ (jg (ha pins s σ H _ I h) λv s1 x H1 I1 r1 q1=>?_);obtain⟨c,rfl,q1⟩:=q1;cases r1;exact not_of (Vh ⟨.bl (!c),H1,I1,rfl,q1⟩)
noncomputable def SN(t:TT)(ta tb:TE):TE:=fun σ H Q=>t σ H λc H1=>if c=true then ta σ H1 Q else tb σ H1 Q
theorem Bb(hc:PT X c tA)(ha:PE X a ta)(hb:PE X b tb):PE X (.IfExp c a b pos) (SN tA ta tb):=by
 intro pins s σ H Q I h;refine wpAny_IfExp (QY (hc pins s σ H _ I h) λd s1 H1 I1 q1=>?_);cases d with
 | true=>exact ha pins s1 σ H1 Q I1 q1
 | false=>exact hb pins s1 σ H1 Q I1 q1
end
def fA(K:TQ) H a (xs:List V) :=
 Rd H a (.lst xs) \/
  ∃(o:Obj)(ak:Array TY)(n:Nat),K.lookup a=TK o/\o.cls= .type "list" /\o.dict=TL/\o.data= .seq ak n/\ak.size<=Ub/\Vals xs ak.toList
def fK(K:TQ) H a (xs:List V) :=
 Rd H a (.tup xs) \/
  ∃(o:Obj)(ak:Array TY)(n:Nat),K.lookup a=TK o/\o.cls= .type "tuple" /\o.data= .seq ak n/\ak.size<=Ub/\Vals xs ak.toList
noncomputable def R1:TY->Option V
 | .none=>TK .non
 | .bool b=>TK (.bl b)
 | .int i _=>TK (.int i)
 | .str x _=>TK (.str x)
 | .bytes b _=>TK (.byt b)
 | .float b _=>TK (.flt b)
 | .ref a=>TK (.ref a)
 | .type n=>TK (.ty n)
 | _=>TL
theorem RelV.abs(r:RelV x u):R1 u=TK x:=by
 cases x with
 | non=>cases r;rfl
 | bl _=>cases r;rfl
 | int _=>obtain⟨t,rfl⟩:=r;rfl
 | str _=>obtain⟨t,rfl⟩:=r;rfl
 | byt _=>obtain⟨t,rfl⟩:=r;rfl
 | flt _=>obtain⟨t,rfl⟩:=r;rfl
 | ref _=>cases r;rfl
 | ty _=>cases r;rfl
theorem RelV.inj(r:RelV x u)(q:RelV y u):x=y:=U0 (r.abs.symm.trans q.abs)
theorem Vals.inj: ∀{xs ys us},Vals xs us->Vals ys us->xs=ys
 | _,_,_,.nil,.nil=>rfl
 | _,_,_,.cons r t,.cons r' t'=>by rw[r.inj r',Vals.inj t t']
section
variable{X:Cx}{pins:List (Uj × Obj)}{σ :St}{H:Hp}{s:Ua}{a:Uj}{xs ys:List V}
theorem fA.of{K:TQ}(h:H a=TK (.lst xs)):fA K H a xs:= .inl (.inl h)
theorem fK.of{K:TQ}(h:H a=TK (.tup xs)):fK K H a xs:= .inl (.inl h)
theorem Inv.list(I:Inv X pins σ H s)(h:fA X.K H a xs): ∃ ak ,Vals xs ak/\PlainL s.heap a ak.toArray/\xs.length<=Ub:=by
 rcases h with h | ⟨o,ak,n,hk,hc,hd,hs,hz,r⟩
 . obtain⟨z,ak,n,r,e⟩:=h.ok I.bx;exact⟨ak,r,⟨_,n,e,rfl,rfl,rfl⟩,z⟩
 . refine⟨ak.toList,r,⟨o,n,I.ib a o hk,hc,hd,by omega⟩,?_⟩;have e:=r.length;simp only[Wn] at e;omega
theorem Inv.tuple(I:Inv X pins σ H s)(h:fK X.K H a xs): ∃ ak ,Vals xs ak/\IsTup s.heap a ak.toArray/\xs.length<=Ub:=by
 rcases h with h | ⟨o,ak,n,hk,hc,hs,hz,r⟩
 . obtain⟨z,ak,r,p⟩:=h.ok I.bx;exact⟨ak,r,p.tup,z⟩
 . refine⟨ak.toList,r,⟨o,I.ib a o hk,hc,n,by omega⟩,?_⟩;have e:=r.length;simp only[Wn] at e;omega
theorem Inv.tK(I:Inv X pins σ H s)(h:fA X.K H a xs)(h':fA X.K H a ys):xs=ys:=by
 obtain⟨ak,r,⟨o,n,e,_,_,d⟩,_⟩:=I.list h;obtain⟨its',r',⟨o',n',e',_,_,d'⟩,_⟩:=I.list h';rw[e] at e';cases e';rw[d] at d';injection d' with d1 _;have:ak=its':=by simpa using congrArg abg d1
 subst this;exact r.inj r'
theorem Inv.kC(I:Inv X pins σ H s)(h:fK X.K H a xs)(h':fK X.K H a ys):xs=ys:=by
 obtain⟨ak,r,⟨o,e,_,n,d⟩,_⟩:=I.tuple h;obtain⟨its',r',⟨o',e',_,n',d'⟩,_⟩:=I.tuple h';rw[e] at e';cases e';rw[d] at d';injection d' with d1 _;have:ak=its':=by simpa using congrArg abg d1
 subst this;exact r.inj r'
end
abbrev Cx.mD(X:Cx)(E:TY->Ua->Prop):Cx:={ X with xe:=E}
abbrev Cx.lT(X:Cx):Cx:=X.mD λ_ _=>False
theorem Cx.Ok.mD{X:Cx}(ok:X.Ok) E:(X.mD E).Ok :=
 ⟨ok.mod,ok.kind,ok.glob,ok.blt,ok.above,ok.inj,ok.has,ok.Nf,ok.hd,ok.frames,ok.OY,ok.R5,ok.bs,ok.Bc,ok.yV,ok.Cr,ok.ki,ok.E7⟩
theorem Cx.Ok.fU{X:Cx}(ok:(X.mD E).Ok):X.Ok :=
 ⟨ok.mod,ok.kind,ok.glob,ok.blt,ok.above,ok.inj,ok.has,ok.Nf,ok.hd,ok.frames,ok.OY,ok.R5,ok.bs,ok.Bc,ok.yV,ok.Cr,ok.ki,ok.E7⟩
section
variable{X:Cx}{pins:List (Uj × Obj)}{σ :St}{H:Hp}{s:Ua}{E:TY->Ua->Prop}
theorem Inv.mD(I:Inv X pins σ H s) E:Inv (X.mD E) pins σ H s:=⟨I.ok.mD E,I.os,I.bare,I.base,I.loc,I.cell,I.free,I.iE,I.pin,I.bx,I.len⟩
theorem Inv.fU(I:Inv (X.mD E) pins σ H s):Inv X pins σ H s:=⟨I.ok.fU,I.os,I.bare,I.base,I.loc,I.cell,I.free,I.iE,I.pin,I.bx,I.len⟩
theorem SP.fU(h:SP (X.mD E) pins D f s'):SP X pins D f s':=by
 cases f with
 | next=>obtain ⟨σ',H',I,q⟩:=h;exact ⟨σ',H',I.fU,q⟩
 | brk=>obtain ⟨σ',H',I,q⟩:=h;exact ⟨σ',H',I.fU,q⟩
 | cont=>obtain ⟨σ',H',I,q⟩:=h;exact ⟨σ',H',I.fU,q⟩
 | ret u=>obtain ⟨v, σ',H',I,r,q⟩:=h;exact ⟨v, σ',H',I.fU,r,q⟩
theorem PE.lT{e:UR}{t:TE}(h:PE X.lT e t):PE X e t:=λpins s σ H Q I hw =>
 UZ (h pins s σ H Q (I.mD _) hw) (λ_ _ ⟨v,H',I',r,q⟩=>⟨v,H',I'.fU,r,q⟩) λ_ _ z=>VG z
theorem PT.lT{e:UR}{t:TT}(h:PT X.lT e t):PT X e t:=λpins s σ H Q I hw =>
 UZ (h pins s σ H Q (I.mD _) hw) (λ_ _ ⟨H',I',q⟩=>⟨H',I'.fU,q⟩) λ_ _ z=>VG z
theorem xj.lT{st}(h:xj X.lT st t):xj X st t:=λpins s σ H D I hw =>
 UZ (h pins s σ H D (I.mD _) hw) (λ_ _ q=>q.fU) λ_ _ z=>VG z
end
section
variable{X:Cx}{st:Xe}{rest:List Xe}{t u:TS}{e:UR}{te:TE}{pos:Pos}
noncomputable def C1:TS:=λD σ H=>D.nx σ H
noncomputable def Ik(t u:TS):TS:=λD σ H=>t { D with nx:=u D} σ H
theorem DK:xj X [] C1:=λ_ _ σ H _ I h=>Zb ⟨σ,H,I,h⟩
theorem BA(h1:PS X st t)(h2:xj X rest u):xj X (st::rest) (Ik t u):=by
 intro pins s σ H D I h;refine wpAny_execs_cons (eF (h1 pins s σ H { D with nx:=u D} I h) λf s1 q=>?_);cases f with
 | next =>
  obtain⟨σ',H',I',q⟩:=q
  exact h2 pins s1 σ' H' D I' q
 | ret v=>exact q
 | brk=>exact q
 | cont=>exact q
theorem Ex(h1:PS X st t):xj X [st] t:=by
 intro pins s σ H D I h;refine wpAny_execs_cons (eF (h1 pins s σ H D I h) λf s1 q=>?_);cases f with
 | next=>exact Zb q
 | ret v=>exact q
 | brk=>exact q
 | cont=>exact q
theorem Inv.quiet{σ :St}(I:Inv X pins σ H s):interactive X.env=false:=by simp[interactive,I.ok.kind]
noncomputable def HG(te:TE):TS:=λD σ H=>te σ H λ_ H1=>D.nx σ H1
theorem D5(he:PE X e te)(hs:Wg e TL pos.line X.env=pure false:=by rfl):PS X (.Expr e pos) (HG te):=by
 intro pins s σ H D I h;exact wpAny_Expr_any (jg (he pins s σ H _ I h) λv s1 x H1 I1 r1 q1=>⟨σ,H1,I1,q1⟩) I.quiet hs
noncomputable def N7(te:TE):TS:=λD σ H=>te σ H D.rt
theorem HW(he:PE X e te):PS X (.Return (TK e) pos) (N7 te):=by
 intro pins s σ H D I h;exact wpAny_Return_some (jg (he pins s σ H _ I h) λv s1 x H1 I1 r1 q1=>⟨x, σ,H1,I1,r1,q1⟩)
noncomputable def PM(c:TT)(t u:TS):TS:=λD σ H=>c σ H λb H1=>if b=true then t D σ H1 else u D σ H1
theorem Nn(hc:PT X c tc)(ha:xj X a t)(hb:xj X b u):PS X (.If c a b pos) (PM tc t u):=by
 intro pins s σ H D I h;refine wpAny_If (QY (hc pins s σ H _ I h) λd s1 H1 I1 q1=>?_);cases d with
 | true=>exact ha pins s1 σ H1 D I1 q1
 | false=>exact hb pins s1 σ H1 D I1 q1
noncomputable def Jo:TS:=λ_ _ _=>False
theorem Br:PS X st Jo:=λ_ _ _ _ _ _ h=>h.elim
end
abbrev TG:=V->St->Hp->(St->Hp->Prop)->Prop
abbrev De:=List V->St->Hp->(St->Hp->Prop)->Prop
def PG X target (t:TG) :=
 ∀ pins s(σ :St) H v u Q,Inv X pins σ H s->RelV v u->t v σ H Q ->
  Ur (Uu X.prog X.w) X.A (X0 target X.env u) (λ_ s'=> ∃ σ' H',Inv X pins σ' H' s'/\Q σ' H') X.xe s
def NT X (ts:List UR) (t:De) :=
 ∀ pins s(σ :St) H vs us Q,Inv X pins σ H s->Vals vs us->t vs σ H Q ->
  Ur (Uu X.prog X.w) X.A (assignInOrder ((Vs ts X.env).map (·.2)) us) (λ_ s'=> ∃ σ' H',Inv X pins σ' H' s'/\Q σ' H') X.xe s
abbrev LW:=V->V->V->Hp->(Hp->Prop)->Prop
def pV X (t:LW) :=
 ∀ pins s(σ :St) H o i v ov iv u Q,Inv X pins σ H s->RelV o ov->RelV i iv->RelV v u->t o i v H Q ->
  Ur (Uu X.prog X.w) X.A (setItem ov iv u) (λ_ s'=> ∃ H',Inv X pins σ H' s'/\Q H') X.xe s
section
variable{X:Cx}{pos:Pos}
noncomputable def fg(i:Nat):TG:=λv σ H Q=>Q (σ.set i (TK v)) H
theorem FO(hN:X.N.Nodup)(hi:X.N[i]?=TK x)(hx:Loc X.env.scope x)(hf:X.fn x=true\/X.env.scope.names.lookup x=TK .local:=by first | exact .inl rfl | exact .inr rfl | assumption):PG X (.Name x pos) (fg i):=by
 intro pins s σ H v u Q I r h;exact wpAny_assign_Name (tw I hN hi hx r (λs' I'=>⟨_,H,I',h⟩) hf)
noncomputable def xQ:De:=λvs σ H Q=>vs=[]/\Q σ H
noncomputable def lM(t:TG)(u:De):De:=λvs σ H Q=> ∃ v r,vs=v::r/\t v σ H fun σ' H'=>u r σ' H' Q
theorem DR:NT X [] xQ:=by
 intro pins s σ H vs us Q I r h;obtain⟨e,h⟩:=h;subst e;exact assignInOrder_nil ⟨σ,H,I,h⟩
theorem BX(h1:PG X e t)(h2:NT X es u)
  (hs:(Vs (e::es) X.env).map (·.2)=X0 e X.env::(Vs es X.env).map (·.2):=by rfl):NT X (e::es) (lM t u):=by
 intro pins s σ H vs us Q I r h;obtain⟨v,vr,e1,h⟩:=h;subst e1;cases r with
 | cons r rr =>
  rw[hs]
  refine assignInOrder_cons (eF (h1 pins s σ H _ _ _ I r h) λ_ s1 z9=>?_);obtain⟨σ1,H1,I1,q1⟩:=z9
  exact h2 pins s1 σ1 H1 _ _ Q I1 rr q1
noncomputable def vq(K:TQ)(n:Nat)(t:De):TG:=λv σ H Q=> ∃ a xs,v= .ref a/\fK K H a xs/\xs.length=n/\t xs σ H Q
theorem Ky{k}(hc:X.calm=true)(h:NT X es t)
  (hn:(Vs es X.env).length=n:=by rfl) (hst:(Vs es X.env).findIdx? (·.1)=TL:=by rfl):PG X (.Tuple es k pos) (vq X.K n t):=by
 intro pins s σ H v u Q I r hw;obtain⟨a,xs,e1,hq,hl,hw⟩:=hw;subst e1;cases r;obtain⟨ak,rv,ht,hz⟩:=I.tuple hq;refine assign_Tuple_tuple (I.ok.hd hc) ht (by simp[hn,<- hl,rv.length]) hst λh' hx=>?_;have I1:=I.kept (t':=s.toks) λb o e=>hx b o (UN (Uk e)) e;exact h pins _ σ H xs _ Q I1 (by omega) hw
noncomputable def RE(to ti:TE)(t:LW):TG:=λv σ H Q=>to σ H λo H1=>ti σ H1 λi H2=>t o i v H2 λH3=>Q σ H3
theorem Md(ho:PE X o to)(hi:PE X i ti)(hs:pV X t)
  (ha: ∀ v,X0 (.Subscript o i pos) X.env v=(do
   let ov <- WS [v] (Vl o X.env)
   let iv <- WS [v,ov] (Vl i X.env)
   Yj pos
   WS [v,ov,iv] (setItem ov iv v)
   release [v,ov,iv] []):=by intro _;rfl):PG X (.Subscript o i pos) (RE to ti t):=by
 intro pins s σ H v u Q I r h;rw[ha];refine TM (VP (jg (ho pins s σ H _ I h) λov s1 x H1 I1 r1 q1=>?_));refine TM (VP (jg (hi pins s1 σ H1 _ I1 q1) λiv s2 y H2 I2 r2 q2=>?_));refine TM (ZV (TM (VP (eF (hs pins s2 σ H2 x y v ov iv u _ I2 r1 r2 r q2) λ_ s3 z9=>?_))));obtain⟨H3,I3,q3⟩:=z9;exact wpAny_release ⟨σ,H3,I3,q3⟩
noncomputable def DT(te:TE)(g:TG):TS:=λD σ H=>te σ H λx H1=>g x σ H1 D.nx
theorem LQ(he:PE X e te)(hg:PG X tg g)(hs:ZW [tg] e pos.line X.env=pure false:=by rfl)(hw:ZX [tg] e X.env=pure TL:=by rfl)
  (h1:(Vs [tg] X.env).map (·.2)=[X0 tg X.env]:=by rfl):PS X (.Assign [tg] e pos) (DT te g):=by
 intro pins s σ H D I h;refine wpAny_Assign_stores (jg (he pins s σ H _ I h) λv s1 x H1 I1 r1 q1=>?_) hs hw;rw[h1];exact eF (hg pins s1 σ H1 x v _ I1 r1 q1) λ_ s2 q=>q
theorem Ir(hN:X.N.Nodup)(hi:X.N[i]?=TK x)(hx:Loc X.env.scope x)(he:PE X e te)(hs:Wg e (TK (.Name x pos')) pos.line X.env=pure false:=by rfl)(hf:X.fn x=true\/X.env.scope.names.lookup x=TK .local:=by first | exact .inl rfl | exact .inr rfl | assumption) :
  PS X (.Assign [.Name x pos'] e pos) (DT te (fg i)):=by
 intro pins s σ H D I h;refine wpAny_Assign_Name (jg (he pins s σ H _ I h) λv s1 y H1 I1 r1 q1=>?_) hs;exact tw I1 hN hi hx r1 (λs2 I2=>⟨_,H1,I2,q1⟩) hf
end
structure It where
 go:Nat->Hp->Prop
 Ly:Nat->Hp->V->Hp->Prop
 stop:Nat->Hp->Prop
def gx(X:Cx)(pins:List (Uj × Obj))(H:Hp) b :=
 H b=TL/\b≠X.env.locals/\b ∉ X.fs/\(b∈X.ex\/X.s₀.heap.objs.size<=b)/\(∀ x c,X.env.cells.lookup x=TK c->c≠b)/\ ∀ p∈X.pn++pins,p.1≠b
theorem Inv.zb{X:Cx}{pins:List (Uj × Obj)}{σ :St}{H H':Hp}{s:Ua}{b:Uj}(I:Inv X pins σ H s)(hb:s.heap.objs.size<=b)(hn:H' b=TL):gx X pins H' b:=by
 refine⟨hn,VR (Ul I.lt hb),I.OD hb,.inr (UQ I.sz hb),λx c e z=>?_,λp hp z=>?_⟩
 . obtain⟨v,q⟩:=I.cell x c e;exact absurd (Ul q.lt (by simp_all)) (U5 _)
 . exact absurd (Ul (Uk (I.pin p hp).1) (by simp_all)) (U5 _)
structure Turn(P:UP)(w:U6)(K:TQ)(tg:UR)(J:It)(fp:List Uj)(it:Uj)(tn:Nat->Vx->Prop):Prop where
 mem:it∈fp
 obj: ∀ i h,tn i h-> ∀ b∈fp,∃ o,h.get? b=TK o/\ ∀ v,o.data≠ .cell v
 keep: ∀ i h h',tn i h->(∀ b∈fp,∀ o,h.get? b=TK o->h'.get? b=TK o)->tn i h'
 item: ∀(X:Cx),X.prog=P->X.w=w->X.K=K->X.calm=true-> ∀(i:Nat)(pins:List (Uj × Obj))(s:Ua)(σ :St)(H:Hp)(E:TY->Ua->Prop),Inv X pins σ H s->(∀ b∈fp,gx X pins H b)->tn i s.heap->J.go i H ->
  Ur (Uu P w) X.A (aaB (.ref it)) (λr s1=> ∃ u,r=TK u /\
   Ur (Uu P w) X.A (Zc tg (.ref it) u) (λ_ s2=> ∃ x H',Inv X pins σ H' s2/\RelV x u/\J.Ly i H x H'/\tn (i+1) s2.heap/\ ∀ b∈fp,H' b=TL) E s1) E s
 done: ∀(X:Cx),X.prog=P->X.w=w->X.K=K->X.calm=true-> ∀(i:Nat)(pins:List (Uj × Obj))(s:Ua)(σ :St)(H:Hp)(E:TY->Ua->Prop),Inv X pins σ H s->(∀ b∈fp,gx X pins H b)->tn i s.heap->J.stop i H ->
  Ur (Uu P w) X.A (aaB (.ref it)) (λr s1=>r=TL/\Inv X pins σ H s1) E s
 self: ∀(A:Vk)(i:Nat)(s:Ua)(Q:TY->Ua->Prop)(E:TY->Ua->Prop),tn i s.heap->Q (.ref it) s->Ur (Uu P w) A (Z9 (.ref it)) Q E s
abbrev TI:=St->Hp->(It->Hp->Prop)->Prop
def Ox X (pins:List (Uj × Obj)) (σ :St) tg (R:It->Hp->Prop) (itv:TY) (s2:Ua) :=
 ∃(it:Uj)(fp:List Uj)(tn:Nat->Vx->Prop)(J:It)(H':Hp),itv= .ref it/\Inv X pins σ H' s2/\Turn X.prog X.w X.K tg J fp it tn/\tn 0 s2.heap/\(∀ b∈fp,gx X pins H' b)/\R J H'
def PI X tg iter (wi:TI) :=
 ∀ pins s(σ :St) H R,Inv X pins σ H s->wi σ H R ->
  Ur (Uu X.prog X.w) X.A (Vl iter X.env) (λv s1=>Ur (Uu X.prog X.w) X.A (Z9 v) (Ox X pins σ tg R) X.xe s1) X.xe s
theorem xr{M : Model}{A : Vk}{E : TY -> Ua -> Prop}{s : Ua}{tg : UR}{it : Uj}{u : TY}{o : Obj}{n : String}{vs : Array TY}{Q : Unit -> Ua -> Prop}(ho : s.heap.get? it = TK o)(hc : o.cls = .type n)(hd : o.data = .fields vs)
    (hn : ["enumerate", "zip", "dict_itemiterator", "dict_reverseitemiterator", "odict_iterator", "itertools.zip_longest", "itertools.pairwise"].contains n = false) (hQ : Q () s) : Ur M A (Zc tg (.ref it) u) Q E s := by
  cases tg <;> first
    | exact Ud hQ
    | (cases u <;> first
        | exact Ud hQ
        | (refine TM (WO ho ?_)
           rw [hc, hd]
           show Ur M A (if (["enumerate", "zip", "dict_itemiterator", "dict_reverseitemiterator", "odict_iterator", "itertools.zip_longest", "itertools.pairwise"].contains n && vs[0]? == TK (rawInt _)) = true then _ else _) Q E s
           rw [if_neg (by intro h; rw [hn] at h; cases h)]
           exact Ud hQ))
noncomputable def Rm(K:TQ)(a:Uj):It :=
 ⟨λi H=> ∃ xs x,fA K H a xs/\xs[i]?=TK x,λi H x H'=>H'=H/\ ∀ xs,fA K H a xs->xs[i]?=TK x,λi H=> ∃ xs,fA K H a xs/\xs.length<=i⟩
noncomputable def Q0(K:TQ)(a:Uj):It :=
 ⟨λi H=> ∃ xs x,fK K H a xs/\xs[i]?=TK x,λi H x H'=>H'=H/\ ∀ xs,fK K H a xs->xs[i]?=TK x,λi H=> ∃ xs,fK K H a xs/\xs.length<=i⟩
noncomputable def P4(lo:Int)(n:Nat):It:=⟨λi _=>i < n,λi H x H'=>H'=H/\x= .int (lo+i),λi _=>n<=i⟩
theorem yo{K} a it:Turn P w K tg (Rm K a) [it] it (λi h=>h.IsListIter it a i) where
 mem:=by simp
 obj:=λi h st b hb=>by
  have e:b=it:=by simpa using hb
  subst e;obtain⟨o,e,c,d⟩:=st;exact⟨o,e,λv z=>by simp_all⟩
 keep:=λi h h' st k=>st.at λo e=>k it (by simp) o e
 item:=by
  intro X hP hw hK hc i pins s σ H E I hf st hg;subst hP hw hK;obtain⟨xs,x,hq,hx⟩:=hg;obtain⟨ak,rv,p,hz⟩:=I.list hq;obtain⟨u,hu,ru⟩:=rv.get hx;obtain⟨f0,f1,f2,f3,f4,f5⟩:=hf it (by simp);refine wpAny_pyNext_list_item st p.isList (x:=u) (by simpa using hu) λh' st' sb=>?_;have I1:=I.turned (t':=s.toks) (λb o hb e=>(sb.2 b hb).trans e) f0 f1 f3 f4 f5;obtain⟨o,e,c,d⟩:=id st';exact⟨u,rfl,xr (s:={ s with heap:=h'}) e c d (by decide) ⟨x,H,I1,ru,⟨rfl,λys hy=>by rw[I.tK hy hq];exact hx⟩,st',λb hb=>(hf b hb).1⟩⟩
 done:=by
  intro X hP hw hK hc i pins s σ H E I hf st hg;subst hP hw hK;obtain⟨xs,hq,hx⟩:=hg;obtain⟨ak,rv,p,hz⟩:=I.list hq;obtain⟨f0,f1,f2,f3,f4,f5⟩:=hf it (by simp);have hl:=rv.length;exact wpAny_pyNext_list_end (I.ok.hd hc) st p.isList (by simp;omega) λh' eb=>⟨rfl,I.turned (t':=s.toks) (λb o hb e=>eb b o hb e) f0 f1 f3 f4 f5⟩
 self:=λ_ _ _ _ _ st h=>wpAny_pyIter_listiter st h
theorem vL{K} a it:Turn P w K tg (Q0 K a) [it] it (λi h=>h.IsTupleIter it a i) where
 mem:=by simp
 obj:=λi h st b hb=>by
  have e:b=it:=by simpa using hb
  subst e;obtain⟨o,e,c,d⟩:=st;exact⟨o,e,λv z=>by simp_all⟩
 keep:=λi h h' st k=>st.at λo e=>k it (by simp) o e
 item:=by
  intro X hP hw hK hc i pins s σ H E I hf st hg;subst hP hw hK;obtain⟨xs,x,hq,hx⟩:=hg;obtain⟨ak,rv,p,hz⟩:=I.tuple hq;obtain⟨u,hu,ru⟩:=rv.get hx;obtain⟨f0,f1,f2,f3,f4,f5⟩:=hf it (by simp);refine wpAny_pyNext_tuple_item st (show s.heap.IsTuple a ak.toArray from p) (x:=u) (by simpa using hu) λh' st' sb=>?_;have I1:=I.turned (t':=s.toks) (λb o hb e=>(sb.2 b hb).trans e) f0 f1 f3 f4 f5;obtain⟨o,e,c,d⟩:=id st';exact⟨u,rfl,xr (s:={ s with heap:=h'}) e c d (by decide) ⟨x,H,I1,ru,⟨rfl,λys hy=>by rw[I.kC hy hq];exact hx⟩,st',λb hb=>(hf b hb).1⟩⟩
 done:=by
  intro X hP hw hK hc i pins s σ H E I hf st hg;subst hP hw hK;obtain⟨xs,hq,hx⟩:=hg;obtain⟨ak,rv,p,hz⟩:=I.tuple hq;obtain⟨f0,f1,f2,f3,f4,f5⟩:=hf it (by simp);have hl:=rv.length;exact wpAny_pyNext_tuple_end (I.ok.hd hc) st (show s.heap.IsTuple a ak.toArray from p) (by simp;omega) λh' eb=>⟨rfl,I.turned (t':=s.toks) (λb o hb e=>eb b o hb e) f0 f1 f3 f4 f5⟩
 self:=λ_ _ _ _ _ st h=>wpAny_pyIter_tupleiter st h
theorem uY{K} it lo n:Turn P w K tg (P4 lo n) [it] it (λi h=>IsRangeIter h it (lo+(i)*1) ((n) - (i)) 1) where
 mem:=by simp
 obj:=λi h st b hb=>by
  simp_all
 keep:=λi h h' st k=>k it (by simp) _ st
 item:=by
  intro X hP hw hK hc i pins s σ H E I hf st hg;subst hP hw hK;obtain⟨f0,f1,f2,f3,f4,f5⟩:=hf it (by simp);have W:=Walks.range (prog:=X.prog) (w:=X.w) (I.ok.hd hc) it lo 1 n;refine W.item i s _ _ hg st λv h' tk hv st' kk=>?_;obtain⟨t,rfl⟩:=hv;have I1:Inv X pins σ H { s with heap:=h',toks:=tk}:=I.turned (λb o hb e=>kk b o (by simpa using hb) e) f0 f1 f3 f4 f5;refine⟨_,rfl,xr (s:={ s with heap:=h',toks:=tk}) (n:= "range_iterator") st' rfl rfl (by decide) ⟨.int (lo+i),H,I1,⟨t,?_⟩,⟨rfl,rfl⟩,st',λb hb=>(hf b hb).1⟩⟩;rw[Int.mul_one]
 done:=by
  intro X hP hw hK hc i pins s σ H E I hf st hg;obtain⟨f0,f1,f2,f3,f4,f5⟩:=hf it (by simp);exact wpAny_pyNext_range_end (I.ok.hd hc) st (by have:n<=i:=hg;omega) λh' eb=>⟨rfl,I.turned (t':=s.toks) (λb o hb e=>eb b o hb e) f0 f1 f3 f4 f5⟩
 self:=λ_ _ _ _ _ st h=>wpAny_pyIter_rangeiter st h
section
variable{X:Cx}{tg:UR}
theorem uB{pins:List (Uj × Obj)}{σ :St}{H:Hp}{s:Ua}{R:It->Hp->Prop}{E:TY->Ua->Prop}{lo hi:Int}{t u v:Tok}{tk:Nat}(I:Inv X pins σ H s)(h1: -(2 ^ 62)<=lo)(h2:lo < 2 ^ 62)(h3: -(2 ^ 62)<=hi)(h4:hi < 2 ^ 62)
  (q:R (P4 lo (hi - lo).toNat) H):Ur (Uu X.prog X.w) X.A (Z9 (.ref s.heap.objs.size)) (Ox X pins σ tg R) E { s with heap:=s.heap.push { cls:= .type "range",data:= .fields #[.int lo t,.int hi u,.int 1 v]},toks:=tk}:=by
 refine wpAny_pyIter_range (IsRange.new ..) (small_one h1 h2 h3 h4) ?_;have I1:Inv X pins σ H { s with heap:=s.heap.push { cls:= .type "range",data:= .fields #[.int lo t,.int hi u,.int 1 v]},toks:=tk}:=I.kept λb o e=>T1 _ e;refine⟨(s.heap.push { cls:= .type "range",data:= .fields #[.int lo t,.int hi u,.int 1 v]}).objs.size,[(s.heap.push { cls:= .type "range",data:= .fields #[.int lo t,.int hi u,.int 1 v]}).objs.size],_,_,H,rfl,
  I1.kept (t':=tk) λb o e=>T1 _ e,uY _ lo (hi - lo).toNat,?_,λb hb=>?_,q⟩
 . have e1:lo+((0:Nat))*1=lo:=by simp
   have e2:(((hi - lo).toNat)) - ((0:Nat))=Builtin.Range.rangeSize lo hi 1:=by rw[rangeSize_one];split<;>omega
   rw[e1,e2];exact Up _ rfl
 . have e:b=(s.heap.push { cls:= .type "range",data:= .fields #[.int lo t,.int hi u,.int 1 v]}).objs.size:=by simpa using hb
   subst e;exact I1.zb (T6 _) (I1.bx.fresh (T6 _))
def Nz(ta:TA):TI:=fun σ H R=>ta σ H λvs H1=> ∃ j ,vs=[.int j]/\ -(2 ^ 62)<=j/\j < 2 ^ 62/\R (P4 0 j.toNat) H1
def Nv(ta:TA):TI:=fun σ H R=>ta σ H λvs H1=> ∃ i j:Int,vs=[.int i,.int j]/\(-(2 ^ 62)<=i/\i < 2 ^ 62/\ -(2 ^ 62)<=j/\j < 2 ^ 62)/\R (P4 i (j - i).toNat) H1
theorem xO(hg:Gl X "range")(hm:X.mg "range" =TL)(ha:PA X [a] ta)(hs:UH [a] X.env=[(false,Vl a X.env)]:=by rfl):PI X tg (.Call (.Name "range" p) [a] [] pos) (Nz ta):=by
 intro pins s σ H R I h;refine Call_ (gO I hg hm boot_range (U9 (Ff (ha pos pins s σ H _ I h) λus s1 vs H1 I1 r1 q1=>?_) hs rfl));obtain⟨j,e,q1,q2,q⟩:=q1;subst e;cases r1 with
 | cons r rr =>
  cases rr
  obtain⟨t,rfl⟩:=r
  exact call_range_1 (uB I1 (by omega) (by omega) q1 q2 (by simpa using q))
theorem yd{a b:UR}{ta:TA}{p pos:Pos}(hg:Gl X "range")(hm:X.mg "range" =TL)(ha:PA X [a,b] ta)(hs:UH [a,b] X.env=[(false,Vl a X.env),(false,Vl b X.env)]:=by rfl)(hs2:UH [b] X.env=[(false,Vl b X.env)]:=by rfl) :
  PI X tg (.Call (.Name "range" p) [a,b] [] pos) (Nv ta):=by
 intro pins s σ H R I h;refine Call_ (gO I hg hm boot_range (U9 (eF (ha pos pins s σ H _ I h) λus s1 ⟨vs,H1,I1,r1,q1⟩=>?_) (by rw[hs,hs2]) (by rw[hs2];rfl)));obtain⟨i,j,e,⟨q1,q2,q3,q4⟩,q⟩:=q1;subst e;cases r1 with
 | cons r rr =>
  cases rr with
  | cons r' rr =>
   cases rr
   obtain⟨t,rfl⟩:=r
   obtain⟨t',rfl⟩:=r'
   exact call_range_2 (uB I1 q1 q2 q3 q4 q)
noncomputable def Qe(wi:TI)(g:TG)(tb:TS):TS:=λD σ H=>wi σ H λJ H1=> ∃ W:Nat->Nat->St->Hp->Prop,(∃ m,W 0 m σ H1)/\ ∀ i m σ H,W i m σ H ->
 (J.stop i H/\D.nx σ H)\/(J.go i H/\ ∃ N ,(∀ σ' H',N σ' H'-> ∃ m',m' < m/\W (i+1) m' σ' H')/\ ∀ x H',J.Ly i H x H'->g x σ H' fun σ2 H2=>tb { D with nx:=N,ct:=N,bk:=D.nx} σ2 H2)
noncomputable def rN(fp:List Uj)(h:Vx):=fp.filterMap λb=>(h.get? b).map λo=>(b,o)
theorem dA(hb:b∈fp)(e:h.get? b=TK o):(b,o)∈rN fp h:=aaa.mpr ⟨b,hb,by rw[e];rfl⟩
theorem y6(hp:p∈rN fp h):p.1∈fp/\h.get? p.1=TK p.2:=by
 obtain⟨b,hb,e⟩:=aaa.mp hp;cases q:h.get? b with
 | none=>simp_all
 | some o =>
  rw[q] at e
  have e':=U0 e
  subst e'
  exact⟨hb,q⟩
theorem Inv.pinned{σ :St}(I:Inv X pins σ H s)(hf: ∀ b∈fp,gx X pins H b)(ho: ∀ b∈fp,∃ o,s.heap.get? b=TK o/\ ∀ v,o.data≠ .cell v):Inv X (pins++rN fp s.heap) σ H s :=
 I.i9 λp hp=>(Uz.mp hp).elim (λz=>I.pin p (UB _ z)) λz=>by
  obtain⟨hb,e⟩:=y6 z;obtain⟨f0,f1,f2,_⟩:=hf p.1 hb;obtain⟨o,e',d⟩:=ho p.1 hb;rw[e] at e';cases e';exact⟨e,f0,f1,f2,d⟩
theorem Inv.oE{σ :St}(I:Inv X (pins++pl) σ H s):Inv X pins σ H s:=I.i9 λp hp=>I.pin p (UB _ (Wh _ hp))
theorem JN(hp:aaC (Uu X.prog X.w) X.A X.env X.xe)(hc:X.calm=true)(hi:PI X tg iter wi)(hg:PG X tg g)(hb:xj X body tb)
  (hs: ∀ x,UX iter X.env x=pure x:=by intro _;rfl):PS X (.For tg iter body [] pos) (Qe wi g tb):=by
 intro pins s σ H D I h;refine wpAny_For (eF (hi pins s σ H _ I h) λv s1 h1=>eF h1 λitv s2 h2=>?_) hs;obtain ⟨it,fp,tn,J,H2,e,I2,T,st2,f2,W,⟨m0,w0⟩,turn⟩:=h2;subst e;have stat: ∀{H':Hp},(∀ b∈fp,H' b=TL)-> ∀ b∈fp,gx X pins H' b:=λhn b hb=>⟨hn b hb,(f2 b hb).2⟩
 refine codeAny_forLoop_any (λn s'=> ∃ i σ' H',Inv X pins σ' H' s'∧tn i s'.heap∧(∀ b∈fp,H' b=TL)∧W i n σ' H') ?_ m0 ⟨0, σ,H2,I2,st2,λb hb=>(f2 b hb).1,w0⟩;rintro n s3 ⟨i, σ3,H3,I3,st3,fr3,w3⟩;rcases turn i n σ3 H3 w3 with ⟨stop,qn⟩ | ⟨go,N,hN,step⟩
 . refine W2 hp (eF (T.done X rfl rfl rfl hc i pins s3 σ3 H3 X.xe I3 (stat fr3) st3 stop) λr s4 z9=>?_);obtain ⟨hr,I4⟩:=z9;subst hr;exact Zb ⟨σ3,H3,I4,qn⟩
 . refine W2 hp (eF (T.item X rfl rfl rfl hc i pins s3 σ3 H3 X.xe I3 (stat fr3) st3 go) λr s4 z9=>?_);obtain⟨u,hr,h4⟩:=z9;subst hr;refine W2 hp (eF h4 λ_ s5 z9=>?_);obtain⟨x,H5,I5,r5,y5,st5,fr5⟩:=z9;have I5':=I5.pinned (stat fr5) (T.obj _ _ st5);refine W2 hp (eF (hg _ s5 σ3 H5 x u _ I5' r5 (step x H5 y5)) λ_ s6 z9=>?_);obtain⟨σ6,H6,I6,q6⟩:=z9;refine W2 hp (eF (hb _ s6 σ6 H6 _ I6 q6) λf s7 q7=>?_);have again: ∀{σ7:St}{H7:Hp},Inv X (pins++rN fp s5.heap) σ7 H7 s7->N σ7 H7-> ∃ m,m < n∧ ∃ i σ' H',Inv X pins σ' H' s7∧tn i s7.heap∧(∀ b∈fp,H' b=TL)∧W i m σ' H':=λ{σ7 H7} I7 n7=>by
    obtain ⟨m',hm,w7⟩:=hN σ7 H7 n7;refine ⟨m',hm,i+1, σ7,H7,I7.oE,T.keep _ _ _ st5 λb hb o e=>(I7.pin (b,o) (UB _ (UB _ (dA hb e)))).1,λb hb=>?_,w7⟩;obtain ⟨o,e,d⟩:=T.obj _ _ st5 b hb;exact (I7.pin (b,o) (UB _ (UB _ (dA hb e)))).2.1
   cases f with
   | next=>obtain ⟨σ7,H7,I7,n7⟩:=q7;exact again I7 n7
   | cont=>obtain ⟨σ7,H7,I7,n7⟩:=q7;exact again I7 n7
   | brk=>obtain ⟨σ7,H7,I7,q7⟩:=q7;exact ⟨σ7,H7,I7.oE,q7⟩
   | ret v=>obtain ⟨x7, σ7,H7,I7,r7,q7⟩:=q7;exact ⟨x7, σ7,H7,I7.oE,r7,q7⟩
end
abbrev R2:=V->V->Hp->VK->Prop
def cT X (f:TY->TY->Sem TY) (r:R2) :=
 ∀ pins s(σ :St) H x y v u Q,Inv X pins σ H s->RelV x v->RelV y u->r x y H Q ->
  Ur (Uu X.prog X.w) X.A (f v u) (EP X pins σ Q) X.xe s
def Nd(X:Cx)(f:TY->Sem TY)(r:V->Hp->VK->Prop):Prop :=
 ∀(pins:List (Uj × Obj))(s:Ua)(σ :St)(H:Hp)(x:V)(v:TY)(Q:VK),Inv X pins σ H s->RelV x v->r x H Q ->
  Ur (Uu X.prog X.w) X.A (f v) (EP X pins σ Q) X.xe s
def bj X (f:TY) (r:List V->Hp->VK->Prop) :=
 ∀ pins s(σ :St) H xs us Q,Inv X pins σ H s->Vals xs us->r xs H Q ->
  Ur (Uu X.prog X.w) X.A (call f us) (EP X pins σ Q) X.xe s
noncomputable def EX(r:R2)(ta tb:TE):TE:=fun σ H Q=>ta σ H λx H1=>tb σ H1 λy H2=>r x y H2 Q
noncomputable def S0(r:V->Hp->VK->Prop)(ta:TE):TE:=fun σ H Q=>ta σ H λx H1=>r x H1 Q
noncomputable def rI(C:Int->Int->Prop)(g:Int->Int->V):R2:=λx y H Q=> ∃ i j,x= .int i/\y= .int j/\C i j/\Q (g i j) H
noncomputable def Cp(g:Int->Int->V):R2:=λx y H Q=> ∃ i j,x= .int i/\y= .int j/\Q (g i j) H
def rU(g:Int->V):V->Hp->VK->Prop:=λx H Q=> ∃ i,x= .int i/\Q (g i) H
section
variable{X:Cx}{a b c:UR}{ta tb tc:TE}{pos:Pos}
theorem Ip(ha:PE X a ta)(hb:PE X b tb){σ :St}{R:V->V->Hp->Prop}(I:Inv X pins σ H s)
  (h:ta σ H λx H1=>tb σ H1 λy H2=>R x y H2) {f:TY->TY->Sem TY}
  (hf: ∀ v u s2 x y H2,Inv X pins σ H2 s2->RelV x v->RelV y u->R x y H2->Ur (Uu X.prog X.w) X.A (f v u) Q X.xe s2) :
  Ur (Uu X.prog X.w) X.A (Vl a X.env) (λv s₁ =>Ur (Uu X.prog X.w) X.A (Vl b X.env) (λu s₂ =>Ur (Uu X.prog X.w) X.A (f v u) Q X.xe s₂) X.xe s₁) X.xe s:=by
 refine jg (ha pins s σ H _ I h) λv s1 x H1 I1 r1 q1=>?_;refine jg (hb pins s1 σ H1 _ I1 q1) λu s2 y H2 I2 r2 q2=>?_;exact hf v u s2 x y H2 I2 r1 r2 q2
theorem OS(ho:cT X (VC op) r)(ha:PE X a ta)(hb:PE X b tb):PE X (.BinOp a op b pos) (EX r ta tb):=by
 intro pins s σ H Q I h;exact wpAny_BinOp (Ip ha hb I h λv u s2 x y H2 I2 rx ry q=>ho pins s2 σ H2 x y v u Q I2 rx ry q)
theorem Pt{op:UnaryOp}{r:V->Hp->VK->Prop}(ho:Nd X (aaT op) r)(ha:PE X a ta):PE X (.UnaryOp op a pos) (S0 r ta):=by
 intro pins s σ H Q I h;exact UnaryOp_ (eF (ha pins s σ H _ I h) λv s1 ⟨x,H1,I1,r1,q1⟩=>ho pins s1 σ H1 x v Q I1 r1 q1)
theorem Ra{f:TY->TY->Sem TY}{C:Int->Int->Prop}{g:Int->Int->Int}
  (rule: ∀(i j:Int)(t u:Tok)(s:Ua)(Q:TY->Ua->Prop)(E:TY->Ua->Prop),C i j->Q (.int (g i j) s.toks) { s with toks:=s.toks+1}->Ur (Uu X.prog X.w) X.A (f (.int i t) (.int j u)) Q E s) :
  cT X f (rI C λi j=> .int (g i j)):=by
 intro pins s σ H x y v u Q I rx ry h;obtain⟨i,j,rfl,rfl,hc,q⟩:=h;obtain⟨t,rfl⟩:=rx;obtain⟨t',rfl⟩:=ry;exact rule i j t t' s _ _ hc ⟨.int (g i j),H,I.tok _,⟨_,rfl⟩,q⟩
theorem J6{f:TY->TY->Sem TY}{g:Int->Int->Int}
  (rule: ∀(i j:Int)(t u:Tok)(s:Ua)(Q:TY->Ua->Prop)(E:TY->Ua->Prop),Q (.int (g i j) s.toks) { s with toks:=s.toks+1}->Ur (Uu X.prog X.w) X.A (f (.int i t) (.int j u)) Q E s) :
  cT X f (Cp λi j=> .int (g i j)):=by
 intro pins s σ H x y v u Q I rx ry h;obtain⟨i,j,rfl,rfl,q⟩:=h;obtain⟨t,rfl⟩:=rx;obtain⟨t',rfl⟩:=ry;exact rule i j t t' s _ _ ⟨.int (g i j),H,I.tok _,⟨_,rfl⟩,q⟩
theorem Fw{f:TY->TY->Sem TY}{g:Int->Int->Bool}
  (rule: ∀(i j:Int)(t u:Tok)(s:Ua)(Q:TY->Ua->Prop)(E:TY->Ua->Prop),Q (.bool (g i j)) s->Ur (Uu X.prog X.w) X.A (f (.int i t) (.int j u)) Q E s) :
  cT X f (Cp λi j=> .bl (g i j)):=by
 intro pins s σ H x y v u Q I rx ry h;obtain⟨i,j,rfl,rfl,q⟩:=h;obtain⟨t,rfl⟩:=rx;obtain⟨t',rfl⟩:=ry;exact rule i j t t' s _ _ ⟨.bl (g i j),H,I,rfl,q⟩
def Rx(i j:Int):=0<=j/\j<=1000000/\i.natAbs < 2 ^ 64
def Kz i j:=(-(2 ^ 64) < i/\i < 2 ^ 64)\/(-(2 ^ 64) < j/\j < 2 ^ 64)
theorem Kz.ok(h:Kz i j):IntMulOk i j:=by
 rcases h with⟨h1,h2⟩ | ⟨h1,h2⟩
 . exact .of_left (intBits_le_64 h1 h2)
 . exact .of_right (intBits_le_64 h1 h2)
theorem KO:cT X (VC .Add) (Cp λi j=> .int (i+j)):=J6 λ_ _ _ _ _ _ _ q=>add_int q
theorem M0:cT X (VC .Sub) (Cp λi j=> .int (i - j)):=J6 λ_ _ _ _ _ _ _ q=>sub_int q
theorem HY:cT X (VC .Mult) (rI Kz λi j=> .int (i*j)):=Ra λ_ _ _ _ _ _ _ hc q=>mul_int q hc.ok
theorem Mv:cT X (VC .Mod) (rI (λ_ j=>0 < j) λi j=> .int (i % j)):=Ra λi j _ _ _ _ _ hc q=>by
 exact mod_int' (by omega) (by rw[Int.fmod_eq_emod_of_nonneg i (by omega)];exact q)
theorem MZ:cT X (VC .Pow) (rI Rx λi j=> .int (i ^ j.toNat)):=Ra λ_ _ _ _ _ _ _ hc q=>pow_int_small hc.1 hc.2.1 hc.2.2 q
theorem Ee:cT X (inplaceOp .Add) (Cp λi j=> .int (i+j)):=J6 λ_ _ _ _ _ _ _ q=>iadd_int q
theorem Th{f:TY->Sem TY}{g:Int->Int}
  (rule: ∀(i:Int)(t:Tok)(s:Ua)(Q:TY->Ua->Prop)(E:TY->Ua->Prop),Q (.int (g i) s.toks) { s with toks:=s.toks+1}->Ur (Uu X.prog X.w) X.A (f (.int i t)) Q E s) :
  Nd X f (rU λi=> .int (g i)):=by
 intro pins s σ H x v Q I rx h;obtain⟨i,rfl,q⟩:=h;obtain⟨t,rfl⟩:=rx;exact rule i t s _ _ ⟨.int (g i),H,I.tok _,⟨_,rfl⟩,q⟩
theorem J5:Nd X (aaT .USub) (rU λi=> .int (-i)):=Th λ_ _ _ _ _ q=>neg_int q
end
noncomputable def Dy:V->V->Bool
 | .non,.non=>true | .non,.int _=>true | .int _,.non=>true | .non,.bl _=>true | .bl _,.non=>true | .non,.str _=>true | .str _,.non=>true
 | .int _,.int _=>true | .bl _,.bl _=>true | .str _,.str _=>true | .byt _,.byt _=>true
 | .int _,.str _=>true | .str _,.int _=>true | .bl _,.str _=>true | .str _,.bl _=>true
 | _,_=>false
def Tw:R2:=λx y H Q=>Dy x y=true/\Q (.bl (decide (x=y))) H
def Tt:R2:=λx y H Q=>Dy x y=true/\Q (.bl (!decide (x=y))) H
theorem wF:decide (V.int i=V.int j)=(i == j):=by
 rw[XE];simp
theorem CJ:decide (V.bl i=V.bl j)=(i == j):=by
 rw[XE];simp
theorem wO:decide (V.str i=V.str j)=(i == j):=by
 rw[XE];simp
theorem wH:decide (V.byt i=V.byt j)=(i.toList == j.toList):=by
 rw[XE];cases i;cases j;simp
section
variable{X:Cx}{a b c:UR}{ta tb tc:TE}{pos:Pos}
theorem aW{pins:List (Uj × Obj)}{σ :St}{H:Hp}{s:Ua}{Q:VK}{k k':Bool}(I:Inv X pins σ H s)(q:Q (.bl k) H)(e:k=k'):EP X pins σ Q (.bool k') s:=by
 subst e;exact⟨.bl k,H,I,rfl,q⟩
theorem OG:cT X (UJ .Eq) Tw:=by
 intro pins s σ H x y v u Q I rx ry h;obtain⟨hs,q⟩:=h;cases x with
 | non =>
  cases rx
  cases y with
  | non=>cases ry;exact PySem.EqNone.eq_none_none (aW I q (by simp))
  | bl j=>cases ry;exact PySem.EqNone.eq_none_bool (aW I q (by simp))
  | int j=>obtain⟨t',rfl⟩:=ry;exact PySem.EqNone.eq_none_int (aW I q (by simp))
  | str j=>obtain⟨t',rfl⟩:=ry;exact PySem.EqNone.eq_none_str (aW I q (by simp))
  | _=>exact absurd (show false=true from hs) Ut
 | bl i =>
  cases rx
  cases y with
  | non=>cases ry;exact PySem.EqNone.eq_bool_none (aW I q (by simp))
  | bl j=>cases ry;exact eq_bool (aW I q CJ)
  | str j=>obtain⟨t',rfl⟩:=ry;exact PySem.EqMixed.eq_bool_str (aW I q (by simp))
  | _=>exact absurd (show false=true from hs) Ut
 | int i =>
  obtain⟨t,rfl⟩:=rx
  cases y with
  | non=>cases ry;exact PySem.EqNone.eq_int_none (aW I q (by simp))
  | int j=>obtain⟨t',rfl⟩:=ry;exact eq_int (aW I q wF)
  | str j=>obtain⟨t',rfl⟩:=ry;exact PySem.EqMixed.eq_int_str (aW I q (by simp))
  | _=>exact absurd (show false=true from hs) Ut
 | str i =>
  obtain⟨t,rfl⟩:=rx
  cases y with
  | non=>cases ry;exact PySem.EqNone.eq_str_none (aW I q (by simp))
  | bl j=>cases ry;exact PySem.EqMixed.eq_str_bool (aW I q (by simp))
  | int j=>obtain⟨t',rfl⟩:=ry;exact PySem.EqMixed.eq_str_int (aW I q (by simp))
  | str j=>obtain⟨t',rfl⟩:=ry;exact eq_str (aW I q wO)
  | _=>exact absurd (show false=true from hs) Ut
 | byt i =>
  obtain⟨t,rfl⟩:=rx
  cases y with
  | byt j=>obtain⟨t',rfl⟩:=ry;exact PySem.W.eq_bytes (aW I q wH)
  | _=>exact absurd (show false=true from hs) Ut
 | _=>cases y<;>exact absurd (show false=true from hs) Ut
theorem Qs:cT X (UJ .NotEq) Tt:=by
 intro pins s σ H x y v u Q I rx ry h;obtain⟨hs,q⟩:=h;cases x with
 | non =>
  cases rx
  cases y with
  | non=>cases ry;exact PySem.EqNone.ne_none_none (aW I q (by simp))
  | bl j=>cases ry;exact PySem.EqNone.ne_none_bool (aW I q (by simp))
  | int j=>obtain⟨t',rfl⟩:=ry;exact PySem.EqNone.ne_none_int (aW I q (by simp))
  | str j=>obtain⟨t',rfl⟩:=ry;exact PySem.EqNone.ne_none_str (aW I q (by simp))
  | _=>exact absurd (show false=true from hs) Ut
 | bl i =>
  cases rx
  cases y with
  | non=>cases ry;exact PySem.EqNone.ne_bool_none (aW I q (by simp))
  | bl j=>cases ry;exact ne_bool (aW I q (congrArg not CJ))
  | str j=>obtain⟨t',rfl⟩:=ry;exact PySem.EqMixed.ne_bool_str (aW I q (by simp))
  | _=>exact absurd (show false=true from hs) Ut
 | int i =>
  obtain⟨t,rfl⟩:=rx
  cases y with
  | non=>cases ry;exact PySem.EqNone.ne_int_none (aW I q (by simp))
  | int j=>obtain⟨t',rfl⟩:=ry;exact ne_int (aW I q (congrArg not wF))
  | str j=>obtain⟨t',rfl⟩:=ry;exact PySem.EqMixed.ne_int_str (aW I q (by simp))
  | _=>exact absurd (show false=true from hs) Ut
 | str i =>
  obtain⟨t,rfl⟩:=rx
  cases y with
  | non=>cases ry;exact PySem.EqNone.ne_str_none (aW I q (by simp))
  | bl j=>cases ry;exact PySem.EqMixed.ne_str_bool (aW I q (by simp))
  | int j=>obtain⟨t',rfl⟩:=ry;exact PySem.EqMixed.ne_str_int (aW I q (by simp))
  | str j=>obtain⟨t',rfl⟩:=ry;exact ne_str (aW I q (congrArg not wO))
  | _=>exact absurd (show false=true from hs) Ut
 | byt i =>
  obtain⟨t,rfl⟩:=rx
  cases y with
  | byt j=>obtain⟨t',rfl⟩:=ry;exact PySem.W.ne_bytes (aW I q (congrArg not wH))
  | _=>exact absurd (show false=true from hs) Ut
 | _=>cases y<;>exact absurd (show false=true from hs) Ut
theorem P5:cT X (UJ .Lt) (Cp λi j=> .bl (decide (i < j))):=Fw λ_ _ _ _ _ _ _ q=>lt_int q
theorem PL:cT X (UJ .LtE) (Cp λi j=> .bl (decide (i<=j))):=Fw λ_ _ _ _ _ _ _ q=>le_int q
theorem OK:cT X (UJ .Gt) (Cp λi j=> .bl (decide (j < i))):=Fw λ_ _ _ _ _ _ _ q=>gt_int q
theorem O3:cT X (UJ .GtE) (Cp λi j=> .bl (decide (j<=i))):=Fw λ_ _ _ _ _ _ _ q=>ge_int q
theorem yI:cT X (UJ .In) (λx y H Q=> ∃ i j,x= .str i/\y= .str j/\Q (.bl (!(Vd j i 0 j.length 1).isEmpty)) H):=by
 intro pins s σ H x y v u Q I rx ry h;obtain⟨i,j,rfl,rfl,q⟩:=h;obtain⟨t,rfl⟩:=rx;obtain⟨t',rfl⟩:=ry;exact in_str (aW I q rfl)
theorem cT.or(h:cT X f r)(h':cT X f r'):cT X f (λx y H Q=>r x y H Q\/r' x y H Q):=by
 intro pins s σ H x y v u Q I rx ry q;rcases q with q | q
 . exact h pins s σ H x y v u Q I rx ry q
 . exact h' pins s σ H x y v u Q I rx ry q
theorem zF b (h:op≠ .In:=by decide) (h2:op≠ .NotIn:=by decide):U7 op b=false:=by
 have e1:(op == CmpOp.In)=false:=by simp_all
 have e2:(op == CmpOp.NotIn)=false:=by simp_all
 cases b<;>simp[U7,e1,e2]
theorem F0(ho:cT X (UJ op) r)(ha:PE X a ta)(hb:PE X b tb)(hm:U7 op b=false):PE X (.Compare a [op] [b] pos) (EX r ta tb):=by
 intro pins s σ H Q I h;exact wpAny_Compare1 (Ip ha hb I h λv u s2 x y H2 I2 rx ry q=>ho pins s2 σ H2 x y v u Q I2 rx ry q) hm
noncomputable def tW(t:TE):TT:=fun σ H Q=>t σ H λx H'=> ∃ k,x= .bl k/\Q k H'
theorem E1(ho:cT X (UJ op) r)(ha:PE X a ta)(hb:PE X b tb)(hm:U7 op b=false):PT X (.Compare a [op] [b] pos) (tW (EX r ta tb)):=by
 intro pins s σ H Q I h;refine Zj (jg (ha pins s σ H _ I h) λv s1 x H1 I1 r1 q1=>jg (hb pins s1 σ H1 _ I1 q1) λu s2 y H2 I2 r2 q2 =>
  jg (ho pins s2 σ H2 x y v u _ I2 r1 r2 q2) λc s3 z H3 I3 r3 ⟨k,e,q3⟩=>?_) hm
 subst e;cases r3;exact Vh ⟨H3,I3,q3⟩
noncomputable def nN(r r':R2)(ta tb tc:TE):TE:=fun σ H Q=>ta σ H λx H1=>tb σ H1 λy H2=>r x y H2 λz H3=> ∃ k,z= .bl k /\
 (if k=true then tc σ H3 λw' H4=>r' y w' H4 Q else Q (.bl false) H3)
theorem Bj(ho:cT X (UJ op) r)(ho':cT X (UJ op') r')(ha:PE X a ta)(hb:PE X b tb)(hc:PE X c tc)
  (hm:Yz [op,op'] [b,c]=false:=by with_unfolding_all rfl):PE X (.Compare a [op,op'] [b,c] pos) (nN r r' ta tb tc):=by
 intro pins s σ H Q I h;refine Compare_chain (jg (ha pins s σ H _ I h) λv s1 x H1 I1 r1 q1=>chain_link (jg (hb pins s1 σ H1 _ I1 q1) λu s2 y H2 I2 r2 q2 =>
  jg (ho pins s2 σ H2 x y v u _ I2 r1 r2 q2) λd s3 z H3 I3 r3 ⟨k,e,q3⟩=>?_)) hm
 subst e;cases r3;refine Vh ?_;cases k with
 | false=>exact ite_ff ⟨.bl false,H3,I3,rfl,q3⟩
 | true=>exact ite_tt (chain_last (jg (hc pins s3 σ H3 _ I3 q3) λw' s4 z' H4 I4 r4 q4=>ho' pins s4 σ H4 y z' u w' Q I4 r2 r4 q4))
theorem Bq{op op':CmpOp}{r r':R2}(ho:cT X (UJ op) r)(ho':cT X (UJ op') r')(ha:PE X a ta)(hb:PE X b tb)(hc:PE X c tc)
  (hm:Yz [op,op'] [b,c]=false:=by with_unfolding_all rfl):PT X (.Compare a [op,op'] [b,c] pos) (tW (nN r r' ta tb tc)):=by
 intro pins s σ H Q I h;refine isTrue_chain (eF (ha pins s σ H _ I h) λv s1 ⟨x,H1,I1,r1,q1⟩=>test_link (eF (hb pins s1 σ H1 _ I1 q1) λu s2 ⟨y,H2,I2,r2,q2⟩ =>
  eF (ho pins s2 σ H2 x y v u _ I2 r1 r2 q2) λd s3 ⟨z,H3,I3,r3,k,e,q3⟩=>?_)) hm
 subst e;cases r3;refine Vh ?_;cases k with
 | false =>
  obtain⟨k',e',q'⟩:=q3
  cases e'
  exact ite_ff ⟨H3,I3,q'⟩
 | true =>
  refine ite_tt (test_last (eF (hc pins s3 σ H3 _ I3 q3) λw' s4 ⟨z',H4,I4,r4,q4⟩=>eF (ho' pins s4 σ H4 y z' u w' _ I4 r2 r4 q4) λd' s5 ⟨z2,H5,I5,r5,k2,e2,q5⟩=>?_))
  subst e2
  cases r5
  exact Vh ⟨H5,I5,q5⟩
theorem kq:(Ub) < 2 ^ 63:=by decide
theorem vals1(r:Vals [x] us): ∃ u,us=[u]/\RelV x u:=by
 cases r with
 | cons r1 r2=>cases r2;exact⟨_,rfl,r1⟩
theorem vals2(r:Vals [x,y] us): ∃ u w',us=[u,w']/\RelV x u/\RelV y w':=by
 cases r with
 | cons r1 r2 =>
  cases r2 with
  | cons r3 r4=>cases r4;exact⟨_,_,rfl,r1,r3⟩
theorem yZ:bj X (.type "int") (λxs H Q=>(∃ i,xs=[.int i]/\Q (.int i) H)\/ ∃ k,xs=[.bl k]/\Q (.int (if k then 1 else 0)) H):=by
 intro pins s σ H xs us Q I r h;rcases h with⟨i,rfl,q⟩ | ⟨k,rfl,q⟩
 . obtain⟨u,rfl,t,rfl⟩:=vals1 r;exact call_int_int ⟨.int i,H,I,⟨_,rfl⟩,q⟩
 . obtain⟨u,rfl,r1⟩:=vals1 r;cases r1;exact call_int_bool ⟨.int (if k then 1 else 0),H,I.tok _,⟨_,rfl⟩,q⟩
end
structure vO(h:Vx)(x dx C:Uj)(mA:Str->Option TY):Prop where
 obj:h.get? x=TK (V3 C dx)
 ns:h.Ns1 dx mA
 ne:dx≠x
theorem yw{h:Vx}(n:h.Ns1 dx mA): ∃ od,h.get? dx=TK od/\ ∀ name,X1 name od=TK (mA name):=by
 obtain⟨o,es,ep,ho,hd,hk,_,hm⟩:=n;refine⟨o,ho,λname=>?_⟩;have e:=hm name;unfold nsFind findBy at e;rw[<- Array.find?_toList] at e;unfold X1;rw[hd];dsimp only;split
 . rename_i y q;rw[q] at e;exact congrArg TK e
 . rename_i q;rw[q] at e;have a:es.toList.any (·.refKey)=false:=by
    rw[List.any_eq_false];intro y hy;obtain⟨z,t,hkey⟩:=hk y (Array.mem_toList_iff.mp hy);simp[DictEntry.refKey,hkey]
   have a': ¬ es.toList.any (·.refKey)=true:=by rw[a];exact Ut
   rw[if_neg a'];exact congrArg TK e
theorem vO.look(I:vO h x dx C mA): ∃ od,PySem.W.InstAt h x (V3 C dx) C (TK od)/\ ∀ name,X1 name od=TK (mA name) :=
 by obtain⟨od,ho,hl⟩:=yw I.ns;exact⟨od,⟨I.obj,rfl,rfl,ho⟩,hl⟩
section
variable{prog:UP}{w:U6}{A:Vk}{E:TY->Ua->Prop}{s:Ua}{K:TQ}{x dx C f:Uj}{mA:Str->Option TY}{name:Str}{v:TY}
theorem get_map{expr:Bool}{Q:TY->Ua->Prop}(X:K.In s.heap)(I:vO s.heap x dx C mA)(hg:Wr K C name=true)(hh:WM K C=true)
  (ha:UO K (.ref C) name=TK TL) (hv:mA name=TK v) (hv':aaD v=true) (h:Q v { s with toks:=s.toks+1}) :
  Ur (Uu prog w) A (getAttr (.ref x) name expr) Q E s:=by
 obtain⟨od,J,hl⟩:=I.look;exact PySem.W.get_value X J (XM hg).1 (PySem.W.findObj_own hh ha rfl (by rw[hl,hv])) hv' h
theorem BC{pl:Sem Bool}{Q:TY × List TY->Ua->Prop}(X:K.In s.heap)(I:vO s.heap x dx C mA)(hg:Wr K C name=true)
  (hf:UO K (.ref C) name=TK (TK (.ref f))) (ht:YQ K (.ref f)=true) (hv:mA name=TL) (h:Q (.ref f,[.ref x]) s) :
  Ur (Uu prog w) A (YB (.ref x) name pl) Q E s:=by
 obtain⟨od,J,hl⟩:=I.look;exact PySem.W.method_fn X J (XM hg).1 (XM hg).2 hf (beq_iff_eq.mp ht) (by show(X1 name od).map (·.isSome)=TK false;rw[hl,hv];rfl) h
theorem FQ{ns:List Str}{Q:Unit->Ua->Prop}(X:K.In s.heap)(I:vO s.heap x dx C mA)
  (hs:UO K (.ref C) "__setattr__" =TK (TK (.builtin "object.__setattr__"))) (hp:Xh K C=true) (ht:Zd K C name=TK TL) (hh:WM K C=true)
  (hw:aal mA ns) (hsz:ns.length<=Ub)
  (h: ∀ h',vO h' x dx C (λy=>if y=name then TK v else mA y)->Xg dx s.heap h'->Q () { s with heap:=h',toks:=s.toks+2}) :
  Ur (Uu prog w) A (setAttr (.ref x) name v) Q E s:=by
 obtain ⟨od,J,hl⟩:=I.look;refine PySem.W.set_plain X J hs (PySem.W.osa_open (s:={ s with toks:=s.toks+1}) (r:=TL) X J hp ht λb=>?_);obtain ⟨cd,hc,hd'⟩:=PySem.W.any_some hh;have hx:s.heap.get? x=TK ⟨.ref C,TK dx,.plain, #[]⟩:=I.obj;refine TM (Ud (TM (TM (wpAny_loadPart hx (TM (PySem.W.Looks.here (s:={ s with toks:=s.toks+1}) (PySem.W.looks_clsIn X hc) ?_))))));rw [hd'];refine Ud (a:=TK dx) (TM (Ud (TM ?_)));refine wpAny_nsSet1 (s:={ s with toks:=s.toks+1}) I.ns λh' hn2 hs2=>?_;obtain⟨oD,esD,epD,hoD,hdD,hcD⟩:=hn2.count (PySem.Within.cons name v hw);refine TM (wpAny_lookBehind hoD (by rw[hdD];exact pastItsLine_dict (UQ hcD (by rw[Uc];omega))) ?_);exact Ud (h _ ⟨(hs2.2 _ (VI I.ne)).trans I.obj,hn2,I.ne⟩ hs2)
theorem Ba{R:aaE->Ua->Prop}{vs:List TY}{kw:List (Str × TY)}(X:K.In s.heap)(hm:WC K C=true)
  (hi:UO K (.ref C) "__init__" =TK (TK (.ref f))) (hf:PySem.W.typeIn K (.ref f)=TK (.type "function"))
  (h:WN (Uu prog w) (A.under (.builtin "type.__call__" ⟨.ref C::vs,kw⟩)) (.call (.ref f) ⟨.ref (s.heap.objs.size+1)::vs,kw⟩) (PySem.W.InitBack (s.heap.objs.size+1) R)
   { s with heap:=(s.heap.push VJ).push (V3 C s.heap.objs.size)}) :
  WN (Uu prog w) A (.call (.ref C) ⟨vs,kw⟩) R s:=by
 obtain⟨hh,g,d,t,os⟩:=s;exact PySem.W.make_core (PySem.W.makes_of X hm) (PySem.W.looks_findIn X hi) (λself=>PySem.W.bind_fn X self hf) (.inl rfl) h
end
noncomputable def fQ(f:Str)(v:V):List (Str × V)->List (Str × V)
 | []=>[(f,v)]
 | (g,x)::r=>if g=f then(g,v)::r else(g,x)::fQ f v r
theorem lO(f g:Str)(v:V): ∀ fs:List (Str × V),(fQ f v fs).lookup g=if g=f then TK v else fs.lookup g
 | []=>by
  show Wi g [(f,v)]=_;by_cases h:g=f
  . have hb:(g == f)=true:=beq_iff_eq.mpr h;simp only[Wi,hb,if_pos h]
  . have hb:(g == f)=false:=beq_eq_false_iff_ne.mpr h;simp only[Wi,hb,if_neg h]
 | (k,x)::r=>by
  have ih:=lO f g v r;rw[show fQ f v ((k,x)::r)=(if k=f then(k,v)::r else(k,x)::fQ f v r) from rfl];by_cases hk:k=f
  . rw[if_pos hk];by_cases h:g=k
    . have hb:(g == k)=true:=beq_iff_eq.mpr h;simp only[Wi,hb,if_pos (h.trans hk)]
    . have hb:(g == k)=false:=beq_eq_false_iff_ne.mpr h;simp only[Wi,hb,if_neg (λe:g=f=>h (e.trans hk.symm))]
  . rw[if_neg hk];by_cases h:g=k
    . have hb:(g == k)=true:=beq_iff_eq.mpr h;simp only[Wi,hb,if_neg (λe:g=f=>hk (h.symm.trans e))]
    . have hb:(g == k)=false:=beq_eq_false_iff_ne.mpr h;simp only[Wi,hb];exact ih
theorem lH(f:Str)(v:V): ∀ fs:List (Str × V),f∈(fQ f v fs).map (·.1)/\ ∀ g,g∈fs.map (·.1)->g∈(fQ f v fs).map (·.1)
 | []=>⟨by simp[fQ],λg h=>by simp at h⟩
 | (k,x)::r=>by
  obtain⟨i1,i2⟩:=lH f v r;rw[show fQ f v ((k,x)::r)=(if k=f then(k,v)::r else(k,x)::fQ f v r) from rfl];by_cases hk:k=f
  . rw[if_pos hk];subst hk;exact⟨by simp,λg h=>by simpa using h⟩
  . rw[if_neg hk];refine⟨?_,λg h=>?_⟩
    . rw[T9];exact T7 _ i1
    . rw[T9] at h ⊢;rcases Uh.mp h with e | e
      . exact Uh.mpr (.inl e)
      . exact T7 _ (i2 g e)
theorem lR(f:Str)(v:V): ∀ fs:List (Str × V),(fQ f v fs).length<=fs.length+1
 | []=>by simp[fQ]
 | (k,x)::r=>by
  have ih:=lR f v r;rw[show fQ f v ((k,x)::r)=(if k=f then(k,v)::r else(k,x)::fQ f v r) from rfl];by_cases hk:k=f
  . rw[if_pos hk,Uc,Uc];omega
  . rw[if_neg hk,Uc,Uc];omega
theorem gL.some_of(r:gL (TK v) o): ∃ u,o=TK u/\RelV v u:=by
 cases o with
 | none=>exact(show False from r).elim
 | some u=>exact⟨u,rfl,r⟩
theorem gL.none_of{o:Option TY}(r:gL TL o):o=TL:=by
 cases o with
 | none=>rfl
 | some u=>exact(show False from r).elim
theorem ye{v:V}{u:TY}(r:RelV v u):aaD u=true:=by
 cases v with
 | non=>cases(show u=Wx from r);rfl
 | bl b=>cases(show u=Xr b from r);rfl
 | int i=>obtain⟨t,e⟩:=(show ∃ t,u=XU i t from r);cases e;rfl
 | str x=>obtain⟨t,e⟩:=(show ∃ t,u=XW x t from r);cases e;rfl
 | byt b=>obtain⟨t,e⟩:=(show ∃ t,u=Value.bytes b t from r);cases e;rfl
 | flt b=>obtain⟨t,e⟩:=(show ∃ t,u=Zr b t from r);cases e;rfl
 | ref a=>cases(show u=Uv a from r);rfl
 | ty n=>cases(show u=Wb n from r);rfl
section
variable{P:UP}{w:U6}{H H':Hp}{h h':Vx}{a C dx:Uj}{fs fs':List (Str × V)}
theorem nh(bx:jE P w H h)(e:H a=TK (.ins C dx fs)): ∃ mA,vO h a dx C mA/\(∀ f,gL (fs.lookup f) (mA f))/\aal mA (fs.map (·.1))/\fs.length<=1000/\H dx=TK (.own a):=by
 obtain⟨d,z,ne,ob,mA,n,r,q⟩:=(show bo P w H h a (.ins C dx fs) from bx a _ e)
 exact⟨mA,⟨ob,n,ne⟩,r,q,z,d⟩
end
structure yr(K:TQ)(C:Uj):Prop where
 pg:Wr K C WH=true
 hd:WM K C=true
 po:Xh K C=true
 sa:UO K (.ref C) "__setattr__" =TK (TK (.builtin "object.__setattr__"))
theorem yr.get{K}(c:yr K C) f:Wr K C f=true:=c.pg
def gP(K:TQ)(C:Uj)(f:Str):Prop:=UO K (.ref C) f=TK TL
theorem gP.QD{K:TQ}{C:Uj}{f:Str}(n:gP K C f):Zd K C f=TK TL:=by
 unfold Zd;rw[show UO K (.ref C) f=TK TL from n];rfl
structure TJ(K:TQ)(C:Uj)(f:Str)(v:V)(u:TY):Prop where
 at_:UO K (.ref C) f=TK (TK u)
 rel:RelV v u
 get:aam K u "__get__" =TK TL
 cp:PySem.W.copiedNames.contains f=false
structure Meth(K:TQ)(C:Uj)(m:Str)(f:Uj):Prop where
 at_:UO K (.ref C) m=TK (TK (.ref f))
 fn:YQ K (.ref f)=true
 kp:Vt K (.ref f)=true
section
variable{X:Cx}{pins:List (Uj × Obj)}{σ :St}{H:Hp}{s:Ua}{a C dx:Uj}{fs:List (Str × V)}{f:Str}{v:V}{A:Vk}{E:TY->Ua->Prop}
theorem nv{b:Bool}{Q:TY->Ua->Prop}(I:Inv X pins σ H s)(e:H a=TK (.ins C dx fs))(c:yr X.K C)(n:gP X.K C f)(l:fs.lookup f=TK v)
  (h: ∀ u s',Inv X pins σ H s'->RelV v u->Q u s'):Ur (Uu X.prog X.w) A (getAttr (.ref a) f b) Q E s:=by
 obtain⟨mA,O,r,_,_,_⟩:=nh I.bx e;obtain⟨u,hu,ru⟩:=gL.some_of (v:=v) (o:=mA f) (by rw[<- l];exact r f);exact get_map I.ib O (c.get f) c.hd n hu (ye ru) (h u _ (I.tok _) ru)
theorem nF{m:Str}{g:Uj}{pl:Sem Bool}{Q:TY × List TY->Ua->Prop}(I:Inv X pins σ H s)(e:H a=TK (.ins C dx fs))(c:yr X.K C)(k:Meth X.K C m g)(l:fs.lookup m=TL)
  (h:Q (.ref g,[.ref a]) s):Ur (Uu X.prog X.w) A (YB (.ref a) m pl) Q E s:=by
 obtain⟨mA,O,r,_,_,_⟩:=nh I.bx e;have hn:mA m=TL:=gL.none_of (by rw[<- l];exact r m);exact BC I.ib O (c.get m) k.at_ k.fn hn h
theorem nt{y:V}{u:TY}{Q:Unit->Ua->Prop}(I:Inv X pins σ H s)(e:H a=TK (.ins C dx fs))(c:yr X.K C)(n:gP X.K C f)(hl:fs.length < 1000)(ry:RelV y u)
  (h: ∀ s',Inv X pins σ (upd H a (.ins C dx (fQ f y fs))) s'->Q () s'):Ur (Uu X.prog X.w) A (setAttr (.ref a) f u) Q E s:=by
 obtain⟨mA,O,r,wi,_,ho⟩:=nh I.bx e;have hz:(fs.map (·.1)).length<=Ub:=by rw[TV,aaK];omega
 refine FQ I.ib O c.sa c.po n.QD c.hd wi hz λh' O' sb=>h _ ?_;have hd: ∃ o,h'.get? dx=TK o:=let ⟨o,_,_,e',_⟩:=O'.ns;⟨o,e'⟩
 refine I.write (x:=a) (e:=dx) (by rw[e];exact V4) (.inr ho) (λb q hb z=>(sb.2 b hb).trans z) hd ?_;refine⟨by rw[av O.ne];exact ho,?_,O.ne,O'.obj,_,O'.ns,λg=>?_,λg hg=>?_⟩
 . have:=lR f y fs;omega
 . show gL ((fQ f y fs).lookup g) (if g=f then TK u else mA g);rw[lO];by_cases q:g=f
   . rw[if_pos q,if_pos q];exact ry
   . rw[if_neg q,if_neg q];exact r g
 . by_cases q:g=f
   . rw[q];exact(lH f y fs).1
   . refine(lH f y fs).2 g (wi g λz=>hg ?_);show(if g=f then TK u else mA g)=TL;rw[if_neg q];exact z
theorem Inv.made(I:Inv X pins σ H s):Inv X pins σ (upd (upd H s.heap.objs.size (.own (s.heap.objs.size+1))) (s.heap.objs.size+1) (.ins C s.heap.objs.size []))
  { s with heap:=(s.heap.push VJ).push (V3 C s.heap.objs.size)}:=by
 have e1:(s.heap.push VJ).get? s.heap.objs.size=TK VJ:=Up s.heap rfl;have e2:((s.heap.push VJ).push (V3 C s.heap.objs.size)).get? (s.heap.objs.size+1)=TK (V3 C s.heap.objs.size):=by
  have:=Up (s.heap.push VJ) (o:=V3 C s.heap.objs.size) rfl
  rwa [Vu] at this
 have e3:(s.heap.push VJ).Ns s.heap.objs.size (λ_=>TL):=⟨VJ, #[],_,e1,rfl,(λe he=>absurd he (by simp)),λ_=>rfl⟩
 have I1:=I.laid (a:=s.heap.objs.size) (o:= .own (s.heap.objs.size+1)) (h':=s.heap.push VJ) (t':=s.toks) (λb u q=>T1 _ q) (T6 _) ⟨_,e1⟩;refine I1.laid (a:=s.heap.objs.size+1) (o:= .ins C s.heap.objs.size []) (t':=s.toks) (λb u q=>T1 _ q) (Nat.le_of_eq (Vu _ _)) ?_;have ne:s.heap.objs.size≠s.heap.objs.size+1:=UN (Xs _);refine⟨by rw[av ne,aI],Vp _,ne,e2,λ_=>TL,(Heap.Ns1.of_empty e3).at λo q=>T1 _ q,λ_=>V4,λy hy=>absurd rfl hy⟩
theorem FD{prog:UP}{w:U6}{env:Env}{e:UR}{f:Str}{pos:Pos}{s:Ua}{Q:TY->Ua->Prop}(hb:VQ e f env (Vl e env)=Vl e env)
  (h:Ur (Uu prog w) A (Vl e env) (λo s₁ =>Ur (Uu prog w) A (getAttr o f true) Q E s₁) E s):Ur (Uu prog w) A (Vl (.Attribute e f pos) env) Q E s :=
 Attribute_any_ h (by rw[arm_eval_Attribute,hb])
end
noncomputable def Rq(K:TQ)(ta:TE)(f:Str):TE:=fun σ H Q=>ta σ H λx H1=> ∃ a C dx fs v,x= .ref a/\H1 a=TK (.ins C dx fs)/\yr K C/\gP K C f/\fs.lookup f=TK v/\Q v H1
def Rh(K:TQ)(ta tv:TE)(f:Str):TS:=λD σ H=>tv σ H λy H1=>ta σ H1 λx H2=> ∃ a C dx fs,x= .ref a/\H2 a=TK (.ins C dx fs)/\yr K C/\gP K C f/\fs.length < 1000 /\
 D.nx σ (upd H2 a (.ins C dx (fQ f y fs)))
def RP(X:Cx)(op:Operator)(rd:V->V->Hp->VK->Prop):Prop :=
 ∀(pins:List (Uj × Obj))(s:Ua)(σ :St)(H:Hp)(x y:V)(u v:TY)(Q:VK),Inv X pins σ H s->RelV x u->RelV y v->rd x y H Q->Ur (Uu X.prog X.w) X.A (inplaceOp op u v) (EP X pins σ Q) X.xe s
def D9(K:TQ)(ta tv:TE)(rd:V->V->Hp->VK->Prop)(f:Str):TS:=λD σ H=>ta σ H λx H1=> ∃ a C dx fs v,x= .ref a/\H1 a=TK (.ins C dx fs)/\yr K C/\gP K C f/\fs.lookup f=TK v /\
 tv σ H1 λy H2=>rd v y H2 λz H3=> ∃ dx' fs',H3 a=TK (.ins C dx' fs')/\fs'.length < 1000/\D.nx σ (upd H3 a (.ins C dx' (fQ f z fs')))
section
variable{X:Cx}{o e value:UR}{f:Str}{pos pos' tpos:Pos}{ta tv:TE}
theorem IS(he:PE X e ta)(hb:VQ e f X.env (Vl e X.env)=Vl e X.env):PE X (.Attribute e f pos) (Rq X.K ta f):=by
 intro pins s σ H Q I h;refine FD hb (eF (he pins s σ H _ I h) λu s1 ⟨x,H1,I1,rx,a,C,dx,fs,v,ex,ea,c,n,l,q⟩=>?_);subst ex;obtain rfl:u=Uv a:=rx;exact nv I1 ea c n l λu' s2 I2 ru=>⟨v,H1,I2,ru,q⟩
theorem Ku(ha:PE X o ta)(hv:PE X value tv)(hs:Wg value (TK (.Attribute o f pos')) pos.line X.env=pure false):PS X (.Assign [.Attribute o f pos'] value pos) (Rh X.K ta tv f):=by
 intro pins s σ H D I h;refine plainObj_wpAny_Assign_Attribute (eF (hv pins s σ H _ I h) λu s1 ⟨y,H1,I1,ry,q⟩=>eF (ha pins s1 σ H1 _ I1 q) λov s2 ⟨x,H2,I2,rx,a,C,dx,fs,ex,ea,c,n,l,q2⟩=>?_) hs;subst ex;obtain rfl:ov=Uv a:=rx;exact nt I2 ea c n l ry λs3 I3=>⟨σ,_,I3,q2⟩
theorem ze{op:Operator}{rd:V->V->Hp->VK->Prop}(ha:PE X o ta)(hv:PE X value tv)(hop:RP X op rd):PS X (.AugAssign (.Attribute o f tpos) op value pos) (D9 X.K ta tv rd f):=by
 intro pins s σ H D I h;refine wpAny_AugAssign_AttributeAny (eF (ha pins s σ H _ I h) λov s1 ⟨x,H1,I1,rx,a,C,dx,fs,v,ex,ea,c,n,l,q⟩=>?_);subst ex;obtain rfl:ov=Uv a:=rx;refine nv I1 ea c n l λu s2 I2 ru=>eF (hv pins s2 σ H1 _ I2 q) λw3 s3 ⟨y,H2,I3,ry,q3⟩=>eF (hop pins s3 σ H2 v y u w3 _ I3 ru ry q3) λw4 s4 ⟨z,H3,I4,rz,dx',fs',ea',l',q4⟩=>?_;exact nt I4 ea' c n l' rz λs5 I5=>⟨σ,_,I5,q4⟩
end
section
variable{X:Cx}{pins:List (Uj × Obj)}{σ :St}{H:Hp}{s:Ua}{A:Vk}{E:TY->Ua->Prop}{Q:TY->Ua->Prop}{c:TY}{b:Bool}
inductive jb(K:TQ)(H:Hp):V->TY->Prop where
 | non:jb K H .non (.type "NoneType")
 | bl (x:Bool):jb K H (.bl x) (.type "bool")
 | int (i:Int):jb K H (.int i) (.type "int")
 | str (x:Str):jb K H (.str x) (.type "str")
 | flt (x:UInt64):jb K H (.flt x) (.type "float")
 | lst {a:Uj} {xs:List V} (e:H a=TK (.lst xs)):jb K H (.ref a) (.type "list")
 | je {a:Uj} {o:Obj} {xs:List V} (e:H a=TK (.je o (.lst xs))):jb K H (.ref a) (.type "list")
 | tup {a:Uj} {xs:List V} (e:H a=TK (.tup xs)):jb K H (.ref a) (.type "tuple")
 | dK {a:Uj} {kvs:List (Key × V)} (e:H a=TK (.dK kvs)):jb K H (.ref a) (.type "dict")
 | dT {a:Uj} {kvs:List (List Key × V)} (e:H a=TK (.dT kvs)):jb K H (.ref a) (.type "dict")
 | ins {a C dx:Uj} {fs:List (Str × V)} (e:H a=TK (.ins C dx fs)) (cl:yr K C) (ha:UO K (.ref C) "__class__" =TK (TK (.builtin "object.__class__")))
   (hn:aam K (.builtin "object.__class__") "__get__" =TK (TK (.builtin "getset_descriptor.__get__"))) (htk:PySem.W.takesIn K (.builtin "object.__class__")=TK true)
   (hm:PySem.W.mroIn K C (.type "object")=TK true):jb K H (.ref a) (.ref C)
theorem xV{x:V}{u t:TY}(I:Inv X pins σ H s)(rx:RelV x u)(ty:jb X.K H x t)(e:X2 X.K t c=TK b)(h: ∀ tk,Q (.bool b) { s with toks:=tk}) :
  Ur (Uu X.prog X.w) A (call (.builtin "isinstance") [u,c]) Q E s:=by
 cases ty with
 | non=>cases(show u=Wx from rx);exact Vw PySem.W.kitx_none I.ib V4 e (λz=>by cases z) h
 | bl y=>cases(show u=Xr y from rx);exact Vw PySem.W.kitx_bool I.ib V4 e (λz=>by cases z) h
 | int i=>obtain⟨t,q⟩:=(show ∃ t,u=XU i t from rx);cases q;exact Vw PySem.W.kitx_int I.ib V4 e (λz=>by cases z) h
 | str y=>obtain⟨t,q⟩:=(show ∃ t,u=XW y t from rx);cases q;exact Vw PySem.W.kitx_str I.ib V4 e (λz=>by cases z) h
 | flt y=>obtain⟨t,q⟩:=(show ∃ t,u=Zr y t from rx);cases q;exact Vw aaW I.ib V4 e (λz=>by cases z) h
 | @lst a xs ea =>
  cases(show u=Uv a from rx)
  obtain⟨_,_,n,_,h1⟩:=(show bo X.prog X.w H s.heap a (.lst xs) from I.bx a _ ea)
  exact Vw Yr I.ib ⟨_,h1,rfl⟩ e (λz=>nomatch z) h
 | @je a ob xs ea =>
  cases(show u=Uv a from rx)
  obtain⟨_,_,_,n,_,h1⟩:=(show bo X.prog X.w H s.heap a (.je ob (.lst xs)) from I.bx a _ ea)
  exact Vw Yr I.ib ⟨_,h1,rfl⟩ e (λz=>nomatch z) h
 | @tup a xs ea =>
  cases(show u=Uv a from rx)
  obtain⟨_,_,_,p⟩:=(show bo X.prog X.w H s.heap a (.tup xs) from I.bx a _ ea)
  obtain⟨o,h1,h2,_⟩:=p
  exact Vw aaX I.ib ⟨o,h1,h2⟩ e (λz=>nomatch z) h
 | @dK a kvs ea =>
  cases(show u=Uv a from rx)
  obtain⟨_,_,vs,_,p⟩:=(show bo X.prog X.w H s.heap a (.dK kvs) from I.bx a _ ea)
  obtain⟨o,es,ep,h1,h2,_⟩:=p
  exact Vw Ys I.ib ⟨o,h1,h2.1⟩ e (λz=>nomatch z) h
 | @dT a kvs ea =>
  cases(show u=Uv a from rx)
  obtain⟨_,_,xs,_,o,es,ep,h1,h2,_⟩:=(show bo X.prog X.w H s.heap a (.dT kvs) from I.bx a _ ea)
  exact Vw Ys I.ib ⟨o,h1,h2.1⟩ e (λz=>nomatch z) h
 | @ins a C dx fs ea cl ha hn htk hm =>
  cases(show u=Uv a from rx)
  obtain⟨mA,O,_⟩:=nh I.bx ea
  obtain⟨od,J,_⟩:=O.look
  exact Vw (PySem.W.kitx_own (cl.get _) cl.hd ha hn htk hm) I.ib J e (λz=>nomatch z) h
end
structure ck(k:Nat)(A:Vk):Prop where
 hd:A.handled=TL
 dp:A.depth+3*k+5 < recursionLimit
 un:A.units+16*k+200 < X3
 gd:A.guards=TK []
theorem ck.mono(r:ck k A)(h:j<=k):ck j A:=⟨r.hd,by have:=r.dp;omega,by have:=r.un;omega,r.gd⟩
theorem ck.deeper(r:ck (k+1) A) env:ck k (A.deeper env) :=
 ⟨r.hd,by have:=r.dp;show A.depth+1+3*k+5 < _;omega,by have:=r.un;show A.units+3+16*k+200 < _;omega,r.gd⟩
theorem ck.in1(r:ck (k+1) A):ck k A.in1 :=
 ⟨r.hd,by have:=r.dp;show A.depth+3*k+5 < _;omega,by have:=r.un;show A.units+1+16*k+200 < _;omega,r.gd⟩
theorem vM{A:Vk}{C:Uj}{us:List TY}{kw:List (Str × TY)}:(A.under (.builtin "type.__call__" ⟨.ref C::us,kw⟩)).depth=A.depth+1:=by
 first | rfl | simp[aan,Code.weight,Code.isCreation,Code.isGuard,Code.isCaller,Code.frames,aao,guardIds]
theorem uZ{A:Vk}{C:Uj}{us:List TY}{kw:List (Str × TY)}:(A.under (.builtin "type.__call__" ⟨.ref C::us,kw⟩)).units=A.units+1:=by
 first | rfl | simp[aan,Code.cUnits,Code.frames,aao]
theorem ck.make{k:Nat}{A:Vk}(r:ck (k+1) A)(C:Uj)(us:List TY)(kw:List (Str × TY)):ck k (A.under (.builtin "type.__call__" ⟨.ref C::us,kw⟩)) :=
 ⟨r.hd,by have:=r.dp;rw[vM];omega,by have:=r.un;rw[uZ];omega,by first | exact r.gd | (show pushGuards _ A.guards=TK [];rw[r.gd];rfl)⟩
theorem ck.depth(r:ck k A):A.depth < recursionLimit:=by have:=r.dp;omega
theorem ck.units(r:ck k A):A.units+64 < X3:=by have:=r.un;omega
theorem ck.IY(r:ck k A):A.units < X3:=by have:=r.un;omega
noncomputable def FK:TA:=λ_ H Q=>Q [] H
noncomputable def Bd(ta:TE)(tr:TA):TA:=fun σ H Q=>ta σ H λx H1=>tr σ H1 λxs H2=>Q (x::xs) H2
section
variable{X:Cx}{e:UR}{es:List UR}{te:TE}{t:TA}{pos:Pos}
theorem KW:PA X [] FK:=λ_ _ _ _ H Q I h=>aap ⟨[],H,I,.nil,h⟩
theorem DE(ha:PE X e te)(hr:PA X es t)(hs:UH (e::es) X.env=(false,Vl e X.env)::UH es X.env:=by rfl):PA X (e::es) (Bd te t):=by
 intro pos pins s σ H Q I h;rw[hs];show Ur _ _ (spliced ((false,Vl e X.env)::Wq pos (UH es X.env))) _ _ s;refine aab (jg (ha pins s σ H _ I h) λu s1 x H1 I1 r1 q1=>?_);exact Ff (hr pos pins s1 σ H1 _ I1 q1) λus s2 xs H2 I2 r2 q2=>⟨x::xs,H2,I2,.cons r1 r2,q2⟩
def Pk(t:TA):TE:=fun σ H Q=>t σ H λxs H1=>xs.length<=Ub/\ ∀ p,H1 p=TL->Q (.ref p) (upd H1 p (.tup xs))
def NM(t:TA):TE:=fun σ H Q=>t σ H λxs H1=>xs.length<=Ub/\ ∀ p,H1 p=TL->Q (.ref p) (upd H1 p (.lst xs))
theorem JB(h:PA X es t):PE X (.Tuple es x1 pos) (Pk t):=by
 intro pins s σ H Q I hq;refine wpAny_Tuple_spliced (Ff (h pos pins s σ H _ I hq) λus s1 xs H1 I1 r ⟨z,q⟩=>⟨by rw[<- r.length];exact z,?_⟩);have hf:=I1.bx.fresh (T6 _);refine⟨.ref s1.heap.objs.size,upd H1 s1.heap.objs.size (.tup xs),I1.laid (t':=s1.toks) (λb u e=>T1 _ e) (T6 _) ?_,rfl,q _ hf⟩;exact⟨z,us,r,⟨_,Up _ rfl,rfl,_,rfl,rfl⟩⟩
theorem Lg(h:PA X es t):PE X (.List es pos) (NM t):=by
 intro pins s σ H Q I hq;refine wpAny_List_spliced (Ff (h pos pins s σ H _ I hq) λus s1 xs H1 I1 r ⟨z,q⟩=>⟨by rw[<- r.length];exact z,?_⟩);have hf:=I1.bx.fresh (T6 _);refine⟨.ref s1.heap.objs.size,upd H1 s1.heap.objs.size (.lst xs),I1.laid (t':=s1.toks) (λb u e=>T1 _ e) (T6 _) ?_,rfl,q _ hf⟩;exact⟨z,us,0,r,Up _ rfl⟩
end
abbrev Sp:=List V->Hp->VK->XK->Prop
abbrev Hl:=List Env->Hp->Ua->XK->TY->Ua->Prop
structure pT(P:UP)(w:U6)(K:TQ)(mg:Str->Option TY)(base:Vx)(A:Vk)(outer:List Env)(s:Ua)(H:Hp):Prop where
 frames:A.frames=TK outer
 mod:Mod K mg base
 bs: ∀ b o,base.get? b=TK o->s.heap.get? b=TK o/\H b=TL
 Bc:base.objs.size<=s.heap.objs.size
 ki:s.heap.FunFrames base outer
 E7: ∀ b∈zq outer,H b=TL
 bx:jE P w H s.heap
 bare:Yi s.gens
def CE(outer:List Env)(P:UP)(w:U6) H (s:Ua) (Q:VK) (u:TY) (s':Ua) :=
 ∃ v H',s'.os=s.os/\Yi s'.gens/\Un (zq outer) [] H H' s.heap s'.heap/\jE P w H' s'.heap/\RelV v u/\Q v H'
def CR(CX:Hl)(outer:List Env)(P:UP)(w:U6) H (s:Ua) Q E (r:aaE) (s':Ua) :=
 match r with
 | .ok (.ret u)=>CE outer P w H s Q u s'
 | .ok _=>False
 | .error e=>CX outer H s E e s'
structure gi(P:UP)(w:U6)(K:TQ)(mg:Str->Option TY)(base:Vx)(CX:Hl)(k:Nat)(f:Uj)(fd:WD)(ps:List Str)(sp:Sp):Prop where
 len: ∀ vs H Q E,sp vs H Q E->vs.length=ps.length
 run: ∀(A:Vk)(outer:List Env)(s:Ua)(H:Hp)(args:Args)(us:List TY)(vs:List V)(Q:VK)(E:XK),ck k A->pT P w K mg base A outer s H->YR s fd args (ps.zip us)->Vals vs us->sp vs H Q E ->
  WN (Uu P w) A (.call (.ref f) args) (CR CX outer P w H s Q E) s
theorem gi.imp{K}(F:gi P w K mg base CX k f fd ps sp)
  (h: ∀ vs H Q E,sp' vs H Q E->sp vs H Q E):gi P w K mg base CX k f fd ps sp' :=
 ⟨λvs H Q E q=>F.len vs H Q E (h _ _ _ _ q),λA outer s H args us vs Q E hr he hb hv hs=>F.run A outer s H args us vs Q E hr he hb hv (h _ _ _ _ hs)⟩
theorem pT.make{P:UP}{w:U6}{K:TQ}{mg:Str->Option TY}{base:Vx}{A:Vk}{outer:List Env}{s:Ua}{H:Hp}(e:pT P w K mg base A outer s H)(C:Uj)(us:List TY)(kw:List (Str × TY)) :
  pT P w K mg base (A.under (.builtin "type.__call__" ⟨.ref C::us,kw⟩)) outer s H:=⟨by first | exact e.frames | (simpa [aan,Code.envs,aao,pushEnvs] using e.frames),e.mod,e.bs,e.Bc,e.ki,e.E7,e.bx,e.bare⟩
theorem pT.in1{K}(e:pT P w K mg base A outer s H) :
  pT P w K mg base A.in1 outer s H:=⟨e.frames,e.mod,e.bs,e.Bc,e.ki,e.E7,e.bx,e.bare⟩
section
variable{X:Cx}{pins:List (Uj × Obj)}{σ :St}{H:Hp}{s s':Ua}
theorem Inv.Nr(I:Inv X pins σ H s):pT X.prog X.w X.K X.mg X.base X.A X.stack s H :=
 ⟨I.ok.frames,I.ok.mod,I.bs,UQ I.ok.Bc I.sz,I.stack,I.w9,I.bx,I.bare⟩
theorem Inv.after(I:Inv X pins σ H s)(h:CE X.stack X.prog X.w H s Q u s'):EP X pins σ Q u s':=by
 obtain⟨v,H',os,bare,un,bx,r,q⟩:=h;obtain⟨hh,g,d,t,os'⟩:=s';obtain rfl:os'=s.os:=os;exact⟨v,H',I.call (h':=hh) (g':=g) (d':=d) (t':=t) (ch:=[]) un bx bare (λb z=>absurd z (by simp)),r,q⟩
end
noncomputable def xq(sp:Sp)(mN:List V)(E:XK)(t:TA):TE:=fun σ H Q=>t σ H λvs H1=>sp (vs++mN) H1 Q E
noncomputable def zB(C:Uj)(m:Str)(sp:Sp)(mN:List V)(E:XK)(ta:TE)(t:TA):TE:=fun σ H Q=>ta σ H λx H1=> ∃ a dx fs,x= .ref a/\H1 a=TK (.ins C dx fs)/\fs.lookup m=TL /\
 t σ H1 λvs H2=>sp (x::(vs++mN)) H2 Q E
def zN(C:Uj)(sp:Sp)(mN:List V)(E:XK)(t:TA):TE:=fun σ H Q=>t σ H λvs H1=> ∀ x dx,H1 x=TL->H1 dx=TL->dx≠x ->
 sp (.ref x::(vs++mN)) (upd (upd H1 dx (.own x)) x (.ins C dx [])) (λv H2=>v= .non/\Q (.ref x) H2) E
def Binds(K:TQ)(fd:WD)(ps:List Str)(ds:List TY) :=
 ∀ s us,K.In s.heap->(us++ds).length=ps.length->YR s fd ⟨us,[]⟩ (ps.zip (us++ds))
theorem Binds.all{K}(h: ∀ us ,us.length=ps.length->Wc fd ⟨us,[]⟩=pure (ps.zip us)):Binds K fd ps []:=λs us _ hl=>by
 rw[Ui] at hl ⊢;exact .of_eq (h us hl)
def Passes(CX:Hl) X E:= ∀ pins(σ :St) H s e s',Inv X pins σ H s->CX X.stack H s E e s'->X.xe e s'
section
variable{X:Cx}{CX:Hl}{k:Nat}{f C:Uj}{fd:WD}{ps:List Str}{sp:Sp}{mN:List V}{ds:List TY}{E:XK}{x m:Str}{p pos apos:Pos}{e o:UR}{es:List UR}{ta:TE}{t:TA}
theorem vh{σ :St}(F:gi X.prog X.w X.K X.mg X.base CX k f fd ps sp)(hr:ck k X.A)(hb:Binds X.K fd ps ds)(hd:Vals mN ds)(hx:Passes CX X E)
  (I:Inv X pins σ H s) (r:Vals vs us) (h:sp (vs++mN) H Q E):Ur (Uu X.prog X.w) X.A (call (.ref f) us) (EP X pins σ Q) X.xe s:=by
 have r2:=r.append hd;have hl:(us++ds).length=ps.length:=by rw[<- r2.length];exact F.len _ _ _ _ h
 refine wpAny_call (YS (F.run X.A X.stack s H ⟨us,[]⟩ (us++ds) (vs++mN) Q E hr I.Nr (hb s us I.ib hl) r2 h) λr s' hq=>?_);cases r with
 | error e=>exact hx pins σ H s e s' I hq
 | ok fl =>
  cases fl with
  | ret u=>exact I.after hq
  | next=>exact VG hq
  | brk=>exact VG hq
  | cont=>exact VG hq
theorem FI(F:gi X.prog X.w X.K X.mg X.base CX k f fd ps sp)(hr:ck k X.A)(hg:Gl X x)(hm:X.mg x=TK (.ref f))(hk:Vt X.K (.ref f)=true)(hb:Binds X.K fd ps ds)(hd:Vals mN ds)(hx:Passes CX X E)
  (ha:PA X (e::es) t) (hdb:(x == ("__debug__"))=false:=by decide) (he:UH (e::es) X.env=(false,Vl e X.env)::UH es X.env:=by rfl) (hpl:(Wq pos (UH es X.env)).any (·.1)=false:=by rfl) :
  PE X (.Call (.Name x p) (e::es) [] pos) (xq sp mN E t):=by
 intro pins s σ H Q I h;refine VZ (mW I hg hm ?_ hdb);refine X4 (h₀ :=X.base) I.ok.mod.ND hk (Ff (ha pos pins s σ H _ I h) λus s1 vs H1 I1 r q=>⟨I1.ib,?_⟩) he hpl;exact vh F hr hb hd hx I1 r q
theorem EY{pl:Sem Bool}(he:PE X o ta)(c:yr X.K C)(hm:Meth X.K C m f)(F:gi X.prog X.w X.K X.mg X.base CX k f fd ps sp)(hr:ck k X.A)(hb:Binds X.K fd ps ds)(hd:Vals mN ds)(hx:Passes CX X E)(ha:PA X (e::es) t)
  (hst:UH (e::es) X.env=(false,Vl e X.env)::UH es X.env:=by rfl) (hpl:(Wq pos (UH es X.env)).any (·.1)=false:=by rfl)
  (ht:Vl (.Call (.Attribute o m apos) (e::es) [] pos) X.env=(do
   let ov <- Vl o X.env
   Yj apos.atName
   let (f,first) <- WS [ov] (YB ov m pl)
   aaY pos f first (Wq pos (UH (e::es) X.env)) (YC pos (Xb [] X.env))):=by rfl) :
  PE X (.Call (.Attribute o m apos) (e::es) [] pos) (zB C m sp mN E ta t):=by
 intro pins s σ H Q I h;refine Zk (pl:=pl) (eF (he pins s σ H _ I h) λu s1 ⟨x,H1,I1,rx,a,dx,fs,ex,ea,l,q⟩=>?_) ht;subst ex;obtain rfl:u=Uv a:=rx;refine nF I1 ea c hm l ?_;refine X4 (first:=[.ref a]) (h₀ :=X.base) I.ok.mod.ND hm.kp (eF (ha pos pins s1 σ H1 _ I1 q) λus s2 ⟨vs,H2,I2,r,q2⟩=>⟨I2.ib,?_⟩) hst hpl;exact vh (us:= .ref a::us) (vs:= .ref a::vs) F hr hb hd hx I2 (.cons rfl r) q2
theorem zH{pl:Sem Bool}(he:PE X o ta)(c:yr X.K C)(hm:Meth X.K C m f)(F:gi X.prog X.w X.K X.mg X.base CX k f fd ps sp)(hr:ck k X.A)(hb:Binds X.K fd ps ds)(hd:Vals mN ds)(hx:Passes CX X E)
  (ht:Vl (.Call (.Attribute o m apos) [] [] pos) X.env=(do
   let ov <- Vl o X.env
   Yj apos.atName
   let (f,first) <- WS [ov] (YB ov m pl)
   aaY pos f first (Wq pos (UH [] X.env)) (YC pos (Xb [] X.env))):=by rfl) :
  PE X (.Call (.Attribute o m apos) [] [] pos) (zB C m sp mN E ta FK):=by
 intro pins s σ H Q I h;refine Zk (pl:=pl) (eF (he pins s σ H _ I h) λu s1 ⟨x,H1,I1,rx,a,dx,fs,ex,ea,l,q⟩=>?_) ht;subst ex;obtain rfl:u=Uv a:=rx;refine nF I1 ea c hm l ?_;exact ZP (first:=[.ref a]) I1.ib hm.kp (vh (us:=[.ref a]) (vs:=[.ref a]) F hr hb hd hx I1 (.cons rfl .nil) q)
structure Mk(K:TQ)(C f:Uj):Prop where
 makes:WC K C=true
 init:UO K (.ref C) "__init__" =TK (TK (.ref f))
 fn:YQ K (.ref f)=true
 kp:Vt K (.ref C)=true
theorem tN{pins:List (Uj × Obj)}{σ :St}{H:Hp}{s:Ua}{Q:VK}{us:List TY}{vs:List V}(M:Mk X.K C f)(F:gi X.prog X.w X.K X.mg X.base CX k f fd ps sp)(hr:ck (k+1) X.A)(hb:Binds X.K fd ps ds)(hd:Vals mN ds)
  (hx:Passes CX X E) (I:Inv X pins σ H s) (r:Vals vs us)
  (h: ∀ x dx,H x=TL->H dx=TL->dx≠x->sp (.ref x::(vs++mN)) (upd (upd H dx (.own x)) x (.ins C dx [])) (λv H2=>v= .non/\Q (.ref x) H2) E) :
  Ur (Uu X.prog X.w) X.A (call (.ref C) us) (EP X pins σ Q) X.xe s:=by
 have hq:=h (s.heap.objs.size+1) s.heap.objs.size (I.bx.fresh (Zu _)) (I.bx.fresh (T6 _)) (UN (Xs _));have I2:=Inv.made (C:=C) I;have r2:Vals (V.ref (s.heap.objs.size+1)::(vs++mN)) (Uv (s.heap.objs.size+1)::(us++ds)):= .cons rfl (r.append hd);have hl:(Uv (s.heap.objs.size+1)::us++ds).length=ps.length:=by
  have e:=r2.length;rw[F.len _ _ _ _ hq] at e;exact e.symm
 refine wpAny_call (Ba (f:=f) I.ib M.makes M.init (beq_iff_eq.mp M.fn) (YS (F.run _ X.stack _ _ ⟨Uv (s.heap.objs.size+1)::us,[]⟩ (Uv (s.heap.objs.size+1)::(us++ds)) _ _ E (hr.make C us [])
  (I2.Nr.make C us []) (hb _ (Uv (s.heap.objs.size+1)::us) I2.ib hl) r2 hq) λr s' hq'=>?_))
 cases r with
 | error e=>exact hx pins σ _ _ e s' I2 hq'
 | ok fl =>
  cases fl with
  | ret u =>
   obtain⟨v,H',I3,rv,ev,q3⟩:=I2.after hq'
   subst ev
   exact⟨rv,⟨V.ref (s.heap.objs.size+1),H',I3,rfl,q3⟩⟩
  | next=>exact VG hq'
  | brk=>exact VG hq'
  | cont=>exact VG hq'
theorem DD(M:Mk X.K C f)(F:gi X.prog X.w X.K X.mg X.base CX k f fd ps sp)(hr:ck (k+1) X.A)(hg:Gl X x)(hm:X.mg x=TK (.ref C))(hb:Binds X.K fd ps ds)(hd:Vals mN ds)(hx:Passes CX X E)
  (ha:PA X (e::es) t) (hdb:(x == ("__debug__" :Str))=false:=by decide) (he:UH (e::es) X.env=(false,Vl e X.env)::UH es X.env:=by rfl) (hpl:(Wq pos (UH es X.env)).any (·.1)=false:=by rfl) :
  PE X (.Call (.Name x p) (e::es) [] pos) (zN C sp mN E t):=by
 intro pins s σ H Q I h;refine VZ (mW I hg hm ?_ hdb);refine X4 (h₀ :=X.base) I.ok.mod.ND M.kp (eF (ha pos pins s σ H _ I h) λus s1 ⟨vs,H1,I1,r,q⟩=>⟨I1.ib,?_⟩) he hpl;exact tN M F hr hb hd hx I1 r q
theorem zG(M:Mk X.K C f)(F:gi X.prog X.w X.K X.mg X.base CX k f fd ps sp)(hr:ck (k+1) X.A)(hg:Gl X x)(hm:X.mg x=TK (.ref C))(hb:Binds X.K fd ps ds)(hd:Vals mN ds)(hx:Passes CX X E)
  (hdb:(x == ("__debug__" :Str))=false:=by decide):PE X (.Call (.Name x p) [] [] pos) (zN C sp mN E FK):=by
 intro pins s σ H Q I h;refine VZ (mW I hg hm ?_ hdb);exact ZP I.ib M.kp (tN (us:=[]) M F hr hb hd hx I .nil h)
end
section
variable{X:Cx}{CX:Hl}{k:Nat}{f C:Uj}{fd:WD}{ps ks:List Str}{sp:Sp}{E:XK}{x m:Str}{p pos apos kpos:Pos}{e o:UR}{es:List UR}{kws:List ZM}{te ta:TE}{t tk:TA}{nm:Option Str}
structure RB(K:TQ)(fd:WD)(ps ks:List Str)(g:List TY->List TY->List TY)(gV:List V->List V->List V):Prop where
 to: ∀(s:Ua)(us ws:List TY),K.In s.heap->(g us ws).length=ps.length->YR s fd ⟨us,ks.zip ws⟩ (ps.zip (g us ws))
 rel: ∀{vs:List V}{us:List TY}{zs:List V}{ws:List TY},Vals vs us->Vals zs ws->Vals (gV vs zs) (g us ws)
variable{g:List TY->List TY->List TY}{gV:List V->List V->List V}
end
structure cE(N P:List Str)(sc:XY):Prop where
 kind:sc.kind= .function
 co:sc.isCoroutine=false
 gen:sc.isGenerator=false
 nd:N.Nodup
 pre:N.take P.length=P
 par: ∀ x∈P,sc.names.lookup x=TK .local\/sc.names.lookup x=TK .cell
 MB: ∀ y∈sc.names,y.2≠ .free
theorem qp{kindOf}: ∀{binds m},(∀ v,(x,v) ∉ binds)->bindL kindOf binds m x=m x
 | [],_,_=>rfl
 | (n,v)::r,m,h=>by
  unfold bindL;rw[qp λw hw=>h w (T7 _ hw)];split
  . have:x≠n:=by rintro rfl;exact h v Ug
    simp[this]
  . rfl
theorem ql{kindOf}: ∀{binds m},(∀ v,(x,v) ∉ binds)->bindC kindOf binds m x=m x
 | [],_,_=>rfl
 | (n,v)::r,m,h=>by
  unfold bindC;rw[ql λw hw=>h w (T7 _ hw)];split
  . rfl
  . have:x≠n:=by rintro rfl;exact h v Ug
    simp[this]
theorem qM{kindOf:Str->Option Xy}{x:Str}{v:TY}: ∀{P:List Str}{vs:List TY}{i:Nat}{m:Str->Option TY},P.Nodup->P[i]?=TK x->vs[i]?=TK v->kindOf x=TK .local ->
  bindL kindOf (P.zip vs) m x=TK v
 | [],_,_,_,_,h,_,_=>by simp at h
 | _::_,[],_,_,_,_,h,_=>by simp at h
 | p::P,w::vs,0,m,nd,h1,h2,hk=>by
  simp at h1 h2;subst h1;subst h2;show bindL kindOf ((p,w)::P.zip vs) m p=_;unfold bindL;rw[qp λv hv=>(V5.mp nd).1 (Ze hv).1,if_pos hk];simp
 | p::P,w::vs,i+1,m,nd,h1,h2,hk=>by
  unfold bindL;exact qM (i:=i) (V5.mp nd).2 (by simpa using h1) (by simpa using h2) hk
theorem qH{kindOf:Str->Option Xy}{x:Str}{v:TY}: ∀{P:List Str}{vs:List TY}{i:Nat}{m:Str->Option TY},P.Nodup->P[i]?=TK x->vs[i]?=TK v->kindOf x≠TK .local ->
  bindC kindOf (P.zip vs) m x=TK v
 | [],_,_,_,_,h,_,_=>by simp at h
 | _::_,[],_,_,_,_,h,_=>by simp at h
 | p::P,w::vs,0,m,nd,h1,h2,hk=>by
  simp at h1 h2;subst h1;subst h2;show bindC kindOf ((p,w)::P.zip vs) m p=_;unfold bindC;rw[ql λv hv=>(V5.mp nd).1 (Ze hv).1,if_neg hk];simp
 | p::P,w::vs,i+1,m,nd,h1,h2,hk=>by
  unfold bindC;exact qH (i:=i) (V5.mp nd).2 (by simpa using h1) (by simpa using h2) hk
noncomputable def start(N:List Str)(vs:List V):St:=vs.map TK++Ue (N.length - vs.length) TL
noncomputable def gj(CX:Hl)(P:UP)(w:U6)(K:TQ)(mg:Str->Option TY)(base:Vx)(N:List Str)(qual:Str)(scope:XY)(f:Uj)(cd:TY)(A:Vk)(outer:List Env)(s:Ua)(H:Hp)(E:XK):Cx where
 prog:=P
 w:=w
 K:=K
 mg:=mg
 base:=base
 A:=A.deeper (X5 qual scope s.heap.objs.size f cd)
 N:=N
 s₀ :=s
 H₀ :=H
 env:=X5 qual scope s.heap.objs.size f cd
 outer:=outer
 stack:=X5 qual scope s.heap.objs.size f cd::outer
 ex:=[]
 calm:=true
 fn:=λ_=>true
 pn:=[]
 xe:=λe s'=>Ur (Uu P w) (A.deeper (X5 qual scope s.heap.objs.size f cd)) (leaving (X5 qual scope s.heap.objs.size f cd) e) (λ_ s''=>CX outer H s E e s'') (λe' s''=>CX outer H s E e' s'') s'
theorem t7{sc:XY}(h:sc.names.lookup x=TK .cell): ∃ c,(WI n sc.names []).lookup x=TK c:=by
 have q:=Xi sc.names n [] (.inl h);exact WW.mp q
theorem xX{K} 
  (S:cE N ps scope) (hd:A.handled=TL) (e0:pT P w K mg base A outer s H) (hl:vs.length=ps.length) (r:Vals vs us)
  (x:InCallC s s.heap.objs.size (bindL (X5 qual scope s.heap.objs.size f cd).kindOf (ps.zip us) λ_=>TL) (WI (s.heap.objs.size+1) scope.names []) (bindC (X5 qual scope s.heap.objs.size f cd).kindOf (ps.zip us) λ_=>TL) s1) :
  Inv (gj CX P w K mg base N qual scope f cd A outer s H E) [] (start N vs) H s1:=by
 have hpl:ps.length<=N.length:=by have:=congrArg Xz S.pre;rw[UY] at this;omega
 obtain⟨h1,tk,rfl,hk⟩:=x.done;have noA: ∀ b:Uj,b ∉ (gj CX P w K mg base N qual scope f cd A outer s H E).ex:=λb z=>absurd (show b∈([]) from z) (by simp);refine⟨⟨e0.mod,S.kind,rfl,rfl,T6 _,λy z c h1 h2=>?_,λy hy=>?_,λy c _ h=>?_,λ_=>hd,Around.frames_deeper e0.frames,.inr ⟨rfl,rfl⟩,λb z=>absurd z (noA b),e0.bs,e0.Bc,λb _ _=>noA b,λb z=>absurd z (noA b),e0.ki,e0.E7⟩,
  rfl,e0.bare,Un.kept hk,⟨_,x.toInCall.ns,λi y v h1 h2 h3=>?_⟩,λy c h=>⟨_,x.cell y c h⟩,e0.bx.fresh (T6 _),λy c h=>?_,λp hp=>absurd (show p∈([]) from hp) (by simp),e0.bx.kept hk,?_⟩
 . exact name_of_addr x.apart (Wo h1) (Wo h2)
 . rcases hy with hy | hy
   . exact t7 hy
   . exact absurd rfl (S.MB _ (Wo hy))
 . exact YO (x.above y c (Wo h))
 . have hi:i < vs.length:=by
    unfold start at h2;by_cases hi:i < vs.length
    . exact hi
    . rw[Uo (by simpa using hi)] at h2;rw[Ws] at h2;split at h2<;>cases h2
   have ha:vs[i]?=TK v:=by
    unfold start at h2;rw[Uq (by simpa using hi),U1] at h2;cases e:vs[i]? with
    | none=>simp_all
    | some a=>simp_all
   obtain⟨u,hu,rv⟩:=r.get ha;have hp:ps[i]?=TK y:=by
    rw[<- S.pre,List.getElem?_take_of_lt (by omega)];exact h1
   have ndP:ps.Nodup:=by rw[<- S.pre];exact S.nd.sublist (List.take_sublist _ _)
   refine⟨u,rv,?_⟩;rcases S.par y (UW hp) with k | k
   . exact .inl ⟨k,qM ndP hp hu k⟩
   . obtain⟨c,e⟩:=t7 (n:=s.heap.objs.size+1) k;refine .inr ⟨.inl k,c,e,?_⟩;have q:=x.cell y c e;rw[qH ndP hp hu (by show scope.names.lookup y≠_;rw[k];decide)] at q;exact q
 . exact e0.bx.fresh (YO (x.above y c (Wo h)))
 . unfold start;show _=N.length;rw [TX,TV,Zl];omega
theorem Oq{K kV} 
       (lk : K.lookup f = some ⟨oc, od, .func (PySem.W.fnOf name qual params body scope dV kV doc pm an cdv ct), osl⟩) (hcd : PySem.W.codeIn K cdv qual = true) (S : cE N ps scope)
    (len : ∀ vs H Q E, sp vs H Q E -> vs.length = ps.length)
    (hbody : ∀ A outer s H vs Q E, ck k (A.deeper (X5 qual scope s.heap.objs.size f cdv)) -> sp vs H Q E ->
      ∃ t, xj (gj CX P w K mg base N qual scope f cdv A outer s H E) body t /\ t { nx := λ_ H' => Q .non H', rt := Q} (start N vs) H) :
    gi P w K mg base CX (k + 1) f (U2 name qual params body scope dV kV doc pm an cdv ct) ps sp := by
  refine ⟨len, λA outer s H args us vs Q E hr e0 hb r hsp => ?_⟩;have hl := len _ _ _ _ hsp;have KX := e0.mod.ND.keeps λb o e => (e0.bs b o e).1;have lim := e0.mod.nolimit.keeps λb o e => (e0.bs b o e).1;have hkind : ∀ y ∈ ps.zip us, scope.names.lookup y.1 = TK .local ∨ (scope.names.lookup y.1 = TK .cell /\ ((WI (s.heap.objs.size + 1) scope.names []).lookup y.1).isSome = true) := λ⟨n, v⟩ hy => by
    rcases S.par n (Ze hy).1 with q | q
    . exact .inl q
    . exact .inr ⟨q, Xi _ _ _ (.inl q)⟩
  refine codeAny_call_function hr.depth (KX _ _ lk) rfl S.co S.gen rfl (PySem.W.codeRec_of KX hcd) (hb _ _ _ _ ?_);refine wpAny_newFunctionEnv_cells S.kind hkind λenv he s1 x => ?_;subst he;refine ⟨lim.keeps x.toInCall.keep, codeAny_func ?_⟩;obtain ⟨t, ht, hq⟩ := hbody A outer s H vs Q E (hr.deeper _) hsp;have I : Inv (gj CX P w K mg base N qual scope f cdv A outer s H E) [] (start N vs) H s1 := xX S hr.hd e0 hl r x;refine UZ (ht [] s1 (start N vs) H _ I hq) (λfl s' hs => ?_) λe s' hs => hs;have fin : ∀{σ' : St}{H' : Hp}{v : V}{u : TY}, Inv (gj CX P w K mg base N qual scope f cdv A outer s H E) [] σ' H' s' -> RelV v u -> Q v H' -> CE outer P w H s Q u s' :=
    λ{σ' H' v u} J rv q => ⟨v, H', J.os, J.bare, J.base, J.bx, rv, q⟩
  cases fl with
  | ret u =>
    obtain ⟨v, σ', H', J, rv, q⟩ := hs
    exact fin J rv q
  | next =>
    obtain ⟨σ', H', J, q⟩ := hs
    exact fin (v := V.non) (u := Wx) J rfl q
  | brk =>
    obtain ⟨_, _, _, q⟩ := hs
    exact VG q
  | cont =>
    obtain ⟨_, _, _, q⟩ := hs
    exact VG q
section
variable{X:Cx}{x:Str}{p pos:Pos}{e:UR}{es:List UR}{t:TA}{id T:String}{r:List V->Hp->VK->Prop}
noncomputable def JJ(r:List V->Hp->VK->Prop)(t:TA):TE:=fun σ H Q=>t σ H λvs H1=>r vs H1 Q
theorem Ce(hc:bj X (.builtin id) r)(hg:Gl X x)(hm:X.mg x=TL)(hv:Vy x=TK (.builtin id))(ha:PA X (e::es) t)(hn:x≠ "__name__" :=by decide)(hdb:(x == ("__debug__"))=false:=by decide)
  (he:UH (e::es) X.env=(false,Vl e X.env)::UH es X.env:=by rfl) (hpl:(Wq pos (UH es X.env)).any (·.1)=false:=by rfl):PE X (.Call (.Name x p) (e::es) [] pos) (JJ r t):=by
 intro pins s σ H Q I h;refine VZ (gO I hg hm hv ?_ hn hdb);exact PyProof.Rows.callWith_builtin1 (Ff (ha pos pins s σ H _ I h) λus s1 vs H1 I1 r1 q1=>hc pins s1 σ H1 vs us Q I1 r1 q1) he hpl
theorem yy(hc:bj X (.type T) r)(hg:Gl X x)(hm:X.mg x=TL)(hv:Vy x=TK (.type T))(ha:PA X (e::es) t)(hn:x≠ "__name__" :=by decide)(hdb:(x == ("__debug__"))=false:=by decide)
  (he:UH (e::es) X.env=(false,Vl e X.env)::UH es X.env:=by rfl) (hpl:(Wq pos (UH es X.env)).any (·.1)=false:=by rfl):PE X (.Call (.Name x p) (e::es) [] pos) (JJ r t):=by
 intro pins s σ H Q I h;refine VZ (gO I hg hm hv ?_ hn hdb);exact U9 (Ff (ha pos pins s σ H _ I h) λus s1 vs H1 I1 r1 q1=>hc pins s1 σ H1 vs us Q I1 r1 q1) he hpl
end
end L2
namespace HT
open PySem PyProof.Rows
section
variable{prog:UP}{w:U6}{A:Vk}{E:TY->Ua->Prop}{s:Ua}
theorem F9{t b:Uj}{vs ws:List TY}{Q:TY->Ua->Prop}(ht:IsTup s.heap t vs.toArray)(hb:IsTup s.heap b ws.toArray)(hv:vs≠[])
  (h1:ws=[]->Q (.ref t) s) (h2:ws≠[]->Q (.ref s.heap.objs.size) { s with heap:=s.heap.push { cls:= .type "tuple",data:= .seq (vs++ws).toArray}})
  (hsz:vs.length+ws.length<=Ub):Ur (Uu prog w) A (VC .Add (.ref t) (.ref b)) Q E s:=by
 obtain⟨⟨cls,dd,data,sl⟩,ho,hc,n,hd⟩:=id ht;obtain⟨⟨cls2,dd2,data2,sl2⟩,ho2,hc2,n2,hd2⟩:=id hb;simp only at hc hd hc2 hd2;subst hc hd hc2 hd2;have e:vs.toArray++ws.toArray=(vs++ws).toArray:=by simp
 by_cases hw:ws=[]
 . exact aaq ⟨_,ho,rfl⟩ ⟨_,ho2,rfl⟩ YD ZY Xj Xc (WX _ _)
    (tuple_addW1 t b vs.toArray ws.toArray n n2 dd dd2 sl sl2 (by simpa using hv) (by simp[hw])) ⟨ho,ho2,h1 hw⟩
 . refine aaq ⟨_,ho,rfl⟩ ⟨_,ho2,rfl⟩ YD ZY Xj Xc (WX _ _)
    (tuple_addW2 t b vs.toArray ws.toArray n n2 dd dd2 sl sl2 (by simpa using hv) (by simpa using hw) (by exact hsz)) ⟨ho,ho2,?_⟩
   rw[e];exact h2 hw
noncomputable def dm(n d:Nat):Option Int->Nat
 | none=>d
 | some v=>if v < 0 then(v+(n)).toNat else min v.toNat n
theorem ke n d:dm n d TL=d:=rfl
theorem mS(n d k:Nat):dm n d (TK (k))=min k n:=by
 rfl
theorem RQ n d (hd:d<=n) o:dm n d o<=n:=by
 cases o with
 | none=>exact hd
 | some v =>
  show(if v < 0 then(v+(n)).toNat else min v.toNat n)<=n
  by_cases hv:v < 0
  . grind
  . rw[if_neg hv];exact YE _ _
theorem wA v (n d:Nat):(if v < 0 then max (v+(n:Int)) 0 else min v (n))=((dm n d (TK v))):=by
 show(if v < 0 then max (v+(n)) 0 else min v (n))=(((if v < 0 then(v+(n)).toNat else min v.toNat n)))
 by_cases hv:v < 0
 . simp_all
 . grind
theorem wg lo hi (n:Nat):WT lo hi 1 (n)=(((dm n 0 lo):Int),((dm n n hi):Int)):=by
 have h1: ¬ ((1) < 0):=by omega
 unfold WT;refine Prod.ext ?_ ?_
 . cases lo with
   | none=>rfl
   | some v=>exact wA v n 0
 . cases hi with
   | none=>rfl
   | some v=>exact wA v n n
theorem vU(i j:Nat):Wf (i) (j) 1=j - i:=by
 unfold Wf;have h1:(1:Int) > 0:=by omega
 simp only[h1,if_true,Int.ediv_one];split<;>omega
theorem pd{v:TY}{o:Option Int}{Q:Option Int->Ua->Prop}(p:YT v o)(h:Q o s):Ur (Uu prog w) A (Builtin.Slice.slicePartIndex v) Q E s:=by
 cases p with
 | none=>exact slicePart_none h
 | int i t=>exact slicePart_int h
theorem gf{sl:Uj}{vl vu:TY}{lo hi:Option Int}{n:Nat}{Q:Int × Int × Nat->Ua->Prop}(hs:s.heap.IsSliceOf sl vl vu .none)(pl:YT vl lo)(pu:YT vu hi)
  (h:Q (((dm n 0 lo:Nat):Int),1,dm n n hi - dm n 0 lo) s):Ur (Uu prog w) A (Builtin.Slice.sliceApplied (.ref sl) (pure (n:Int))) Q E s:=by
 obtain⟨os,hos,hcs,hds⟩:=id hs;refine TM (TM (U4 hos hds (x:=vl) rfl (TM (U4 hos hds (x:=vu) rfl (TM (U4 hos hds (x:= .none) rfl (Ud ?_)))))));refine TM (slicePart_none ?_);refine TM (pd pl (TM (pd pu (TM (Ud ?_)))));show Ur _ _ (match WT lo hi 1 (n) with | (lo,hi)=>pure (lo,(1:Int),Wf lo hi 1)) _ _ s;rw[wg lo hi n];show Ur _ _ (pure (((dm n 0 lo):Int),(1),Wf ((dm n 0 lo)) ((dm n n hi)) 1)) _ _ s;rw[vU];exact Ud h
theorem CY(xs:Array TY)(i k:Nat):((VY k).filterMap λ(m:Nat)=>xs[((i:Int)+(m)*1).toNat]?).toArray=((xs.toList.drop i).take k).toArray:=by
 have e:(λ(m:Nat)=>xs[((i)+(m:Int)*1).toNat]?)=λm=>xs[i+m]?:=by
  funext m
  have:((i)+(m:Int)*1).toNat=i+m:=by omega
  rw[this]
 rw[e];have:=pick_run xs i k;rw[List.filterMap_map] at this;have e2:((λx=>xs[x]?) ∘ λx=>i+x)=λm=>xs[i+m]?:=rfl;rw[e2] at this;rw [this]
theorem jF{t sl : Uj}{items : Array TY}{vl vu : TY}{lo hi : Option Int}{Q : TY -> Ua -> Prop}(ht : IsTup s.heap t items)(hs : s.heap.IsSliceOf sl vl vu .none)(pl : YT vl lo)(pu : YT vu hi)
    (hw : ¬ (dm items.size 0 lo = 0 /\ dm items.size items.size hi = items.size))
    (h : Q (.ref s.heap.objs.size) { s with heap := s.heap.push { cls := .type "tuple", data := .seq ((items.toList.drop (dm items.size 0 lo)).take (dm items.size items.size hi - dm items.size 0 lo)).toArray}})
    (hsz : items.size <= Ub) : Ur (Uu prog w) A (XQ (.ref t) (.ref sl)) Q E s := by
  have htake : sizeOk (.seq ((items.toList.drop (dm items.size 0 lo)).take (dm items.size items.size hi - dm items.size 0 lo)).toArray) := by
    show ((items.toList.drop (dm items.size 0 lo)).take (dm items.size items.size hi - dm items.size 0 lo)).toArray.size <= Ub;rw [Ux, UY, VO, Wn];omega
  obtain ⟨os, hos, hcs, hds⟩ := id hs;have hTs : s.TypeIs (.ref sl) "slice" := ⟨os, hos, hcs⟩
  unfold XQ
  try with_reducible refine VP ?_
  refine TM (wpAny_sequenceKey ht.typeIs (by decide) ?_);refine TM (Ve (name := TU "__getitem__") ht.typeIs U3
    (V0 U3 ht.typeIs ZQ ?_ (aac _ _)))
  show Ur _ _ (X6 (.ref t) >>= _) _ _ s;refine TM (tupleItemsOf_ ht ?_);refine TM (XR hTs ?_);refine TM (gf hs pl pu ?_);have hno : ¬ ((((dm items.size 0 lo) : Int) == 0 && (1 : Int) == 1 && (dm items.size items.size hi - dm items.size 0 lo) == items.size) = true) := by
    simp_all
  show Ur _ _ (if (((dm items.size 0 lo) : Int) == 0 && (1) == 1 && (dm items.size items.size hi - dm items.size 0 lo) == items.size) = true then _ else _) _ _ s;rw [if_neg hno, CY]
  first
    | exact TM (m := Vn _) (Vi (Ud ⟨_, rfl, Ud h⟩) htake)
    | exact TM (m := Vn _) (Vi (TM (Ud (Ud ⟨_, rfl, Ud h⟩))) htake)
    | exact TM (TM (m := Vn _) (Vi (Ud (Ud ⟨_, rfl, Ud h⟩)) htake))
    | exact TM (TM (m := Vn _) (Vi (Ud ⟨_, rfl, Ud h⟩) htake))
end
end HT
namespace L2
open PySem PySem.Spec PyProof.Rows
abbrev TO:=St->Hp->(Option Int->Hp->Prop)->Prop
def PO X (e:Option UR) (t:TO) :=
 ∀ pins s(σ :St) H Q,Inv X pins σ H s->t σ H Q ->
  Ur (Uu X.prog X.w) X.A (evalPart e X.env) (λu s'=> ∃ o H',Inv X pins σ H' s'/\YT u o/\Q o H') X.xe s
noncomputable def wQ:TO:=λ_ H Q=>Q TL H
noncomputable def Hw(t:TE):TO:=fun σ H Q=>t σ H λx H1=> ∃ i,x= .int i/\Q (TK i) H1
section
variable{X:Cx}{e:UR}{te:TE}{lo hi:Option UR}{tl th:TO}{pos p2:Pos}
theorem F8:PO X TL wQ:=by
 intro pins s σ H Q I h;exact Ud ⟨TL,H,I,.none,h⟩
theorem F2(h:PE X e te):PO X (TK e) (Hw te):=by
 intro pins s σ H Q I hw;refine jg (h pins s σ H _ I hw) λu s1 x H1 I1 r1 q1=>?_;obtain⟨i,rfl,q⟩:=q1;obtain⟨t,rfl⟩:=r1;exact⟨TK i,H1,I1,.int i t,q⟩
def C5 X (r:V->Option Int->Option Int->Hp->VK->Prop) :=
 ∀ pins s(σ :St) H x v vl vu lo hi sl Q,Inv X pins σ H s->RelV x v->s.heap.IsSliceOf sl vl vu .none->YT vl lo->YT vu hi->r x lo hi H Q ->
  ∃ T id,aad (.type T) "__getitem__" =pure (TK (.builtin id))/\s.TypeIs v T/\Ur (Uu X.prog X.w) X.A (XQ v (.ref sl)) (EP X pins σ Q) X.xe s
theorem C5.or(h:C5 X r)(h':C5 X r'):C5 X (λx lo hi H Q=>r x lo hi H Q\/r' x lo hi H Q):=by
 intro pins s σ H x v vl vu lo hi sl Q I rx hs pl pu q;rcases q with q | q
 . exact h pins s σ H x v vl vu lo hi sl Q I rx hs pl pu q
 . exact h' pins s σ H x v vl vu lo hi sl Q I rx hs pl pu q
noncomputable def SV(r:V->Option Int->Option Int->Hp->VK->Prop)(te:TE)(tl th:TO):TE:=fun σ H Q=>te σ H λx H1=>tl σ H1 λl H2=>th σ H2 λu H3=>r x l u H3 Q
theorem CA(hr:C5 X r)(he:PE X e te)(hl:PO X lo tl)(hu:PO X hi th):PE X (.Subscript e (.Slice lo hi TL p2) pos) (SV r te tl th):=by
 intro pins s σ H Q I h;refine Subscript_ (jg (he pins s σ H _ I h) λv s1 x H1 I1 r1 q1=>?_);refine wpAny_Slice (eF (hl pins s1 σ H1 _ I1 q1) λvl s2 ⟨l,H2,I2,pl,q2⟩=>eF (hu pins s2 σ H2 _ I2 q2) λvu s3 z9=>?_);obtain⟨u,H3,I3,pu,q3⟩:=z9;refine Ud ?_;have I4:Inv X pins σ H3 { s3 with heap:=s3.heap.push { cls:= .type "slice",data:= .fields #[vl,vu,.none]}}:=I3.kept (t':=s3.toks) λb ob q=>T1 _ q;obtain⟨T,id,hT,ht,hg⟩:=hr pins { s3 with heap:=s3.heap.push { cls:= .type "slice",data:= .fields #[vl,vu,.none]}} σ H3 x v vl vu l u s3.heap.objs.size Q I4 r1 (abi ..) pl pu q3;exact tail_any (ops:=[.ref s3.heap.objs.size,v]) ht hT hg (by rfl)
def mK(xs:List V)(lo hi:Option Int):=(xs.drop (HT.dm xs.length 0 lo)).take (HT.dm xs.length xs.length hi - HT.dm xs.length 0 lo)
theorem lN xs lo hi:(mK xs lo hi).length<=xs.length:=by
 unfold mK;rw[UY,VO];omega
def OP(K:TQ):V->Option Int->Option Int->Hp->VK->Prop:=λx lo hi H Q=> ∃ a xs,x= .ref a/\fK K H a xs /\
 ¬ (HT.dm xs.length 0 lo=0/\HT.dm xs.length xs.length hi=xs.length)/\ ∀ p,H p=TL->Q (.ref p) (upd H p (.tup (mK xs lo hi)))
theorem Kb:C5 X (OP X.K):=by
 intro pins s σ H x v vl vu lo hi sl Q I rx hs pl pu h;obtain⟨a,xs,rfl,hx,hw,q⟩:=h;cases rx;obtain⟨ak,r,ht,hz⟩:=I.tuple hx;have hlen:ak.toArray.size=xs.length:=by exact r.length.symm
 refine⟨"tuple",_,U3.lookup,ht.typeIs,?_⟩;refine HT.jF ht hs pl pu (by rw[hlen];exact hw) ?_ (by rw[hlen];exact hz);rw[hlen];refine⟨.ref s.heap.objs.size,_,I.laid (t':=s.toks) (o:= .tup (mK xs lo hi)) (λb ob q=>T1 _ q) (T6 _) ?_,rfl,q _ (I.bx.fresh (T6 _))⟩;exact⟨UQ (lN xs lo hi) hz,_,(r.drop (HT.dm xs.length 0 lo)).take (HT.dm xs.length xs.length hi - HT.dm xs.length 0 lo),pM.new _ _⟩
def Hj(K:TQ):R2:=λx y H Q=> ∃ a b xs ys,x= .ref a/\y= .ref b/\fK K H a xs/\fK K H b ys/\xs≠[]/\xs.length+ys.length<=Ub /\
 (ys=[]->Q (.ref a) H)/\(ys≠[]-> ∀ p,H p=TL->Q (.ref p) (upd H p (.tup (xs++ys))))
theorem Vals.mY(r:Vals xs us):us=[]↔xs=[]:=by
 cases r with
 | nil=>simp
 | cons _ _=>simp
theorem GX:cT X (VC .Add) (Hj X.K):=by
 intro pins s σ H x y v u Q I rx ry h;obtain⟨a,b,xs,ys,rfl,rfl,ha,hb,hx,hz,q1,q2⟩:=h;cases rx;cases ry;obtain⟨ak,r1,p1,_⟩:=I.tuple ha;obtain⟨its2,r2,p2,_⟩:=I.tuple hb;refine HT.F9 p1 p2 (λz=>hx (r1.mY.mp z)) (λz=>⟨.ref a,H,I,rfl,q1 (r2.mY.mp z)⟩) (λz=>?_) (by rw[<- r1.length,<- r2.length];exact hz);refine⟨.ref s.heap.objs.size,_,I.laid (t':=s.toks) (o:= .tup (xs++ys)) (λb ob q=>T1 _ q) (T6 _) ?_,rfl,q2 (λw=>z (r2.mY.mpr w)) _ (I.bx.fresh (T6 _))⟩;exact⟨by rw[TX];exact hz,_,r1.append r2,pM.new _ _⟩
end
noncomputable def vQ(n:Nat)(i:Int):=if 0<=i then(if i < n then TK i.toNat else TL) else if -(n)<=i then TK (i+n).toNat else TL
def gA{α :Type}(xs:List α) i:=(vQ xs.length i).bind λj=>xs[j]?
theorem xt(h:vQ n i=TK j):seqIndex? i n=TK j/\j < n/\ -(n)<=i/\i < n:=by
 unfold vQ at h;by_cases h0:0<=i
 . rw[if_pos h0] at h;by_cases h1:i < n
   . rw[if_pos h1] at h;have e:=U0 h;exact⟨by rw[aaL h0 h1,e],by omega,by omega,h1⟩
   . simp_all
 . rw[if_neg h0] at h;by_cases h1: -(n)<=i
   . rw[if_pos h1] at h;have e:=U0 h;exact⟨by rw[aar (by omega) h1,e],by omega,h1,by omega⟩
   . simp_all
theorem rA(h:gA xs i=TK v): ∃ j,seqIndex? i xs.length=TK j/\xs[j]?=TK v/\j < xs.length/\ -(xs.length)<=i/\i < xs.length:=by
 unfold gA at h;cases e:vQ xs.length i with
 | none=>simp_all
 | some j =>
  rw[e] at h
  obtain⟨h1,h2,h3,h4⟩:=xt e
  exact⟨j,h1,h,h2,h3,h4⟩
theorem gK{j:Nat}(h:xs[j]?=TK v):gA xs (j)=TK v:=by
 have hj:=(TR.mp h).1;have e:vQ xs.length (j)=TK j:=by
  unfold vQ;rw[if_pos (by omega),if_pos (by omega)];simp
 unfold gA;rw[e];exact h
def rV b:= ∀ o i,Yk b false o i=operate [o,i] (XQ o i)
def yF X (r:R2) :=
 ∀ value slice pins s(σ :St) H x y v u Q,Inv X pins σ H s->RelV x v->RelV y u->r x y H Q ->
  Yk slice false v u=operate [v,u] (XQ v u)->Ur (Uu X.prog X.w) X.A (subscriptTail value slice v u) (EP X pins σ Q) X.xe s
def vz X (id:String) (r:V->List V->Hp->VK->Prop) :=
 ∀ pins s(σ :St) H x xs v us Q,Inv X pins σ H s->RelV x v->Vals xs us->r x xs H Q ->
  Ur (Uu X.prog X.w) X.A (call (.builtin id) (v::us)) (EP X pins σ Q) X.xe s
section
variable{X:Cx}{a b:UR}{ta tb:TE}{pos:Pos}
theorem yF.or(h:yF X r)(h':yF X r'):yF X (λx y H Q=>r x y H Q\/r' x y H Q):=by
 intro value slice pins s σ H x y v u Q I rx ry q hs;rcases q with q | q
 . exact h value slice pins s σ H x y v u Q I rx ry q hs
 . exact h' value slice pins s σ H x y v u Q I rx ry q hs
theorem Np(hr:yF X r)(ha:PE X a ta)(hb:PE X b tb)(hs:rV b):PE X (.Subscript a b pos) (EX r ta tb):=by
 intro pins s σ H Q I h;exact Subscript_ (Ip ha hb I h λv u s2 x y H2 I2 rx ry q=>hr a b pins s2 σ H2 x y v u Q I2 rx ry q (hs _ _))
def OV(K:TQ):R2:=λx y H Q=> ∃ p xs i v,x= .ref p/\y= .int i/\fA K H p xs/\gA xs i=TK v/\Q v H
def P6(K:TQ):R2:=λx y H Q=> ∃ p xs i v,x= .ref p/\y= .int i/\fK K H p xs/\gA xs i=TK v/\Q v H
def N8:R2:=λx y H Q=> ∃ z i c,x= .str z/\y= .int i/\z.length<=Ub/\gA z.cps.toList i=TK c/\Q (.str ⟨#[c]⟩) H
theorem GL:yF X (OV X.K):=by
 intro value slice pins s σ H x y v u Q I rx ry h hs;obtain⟨p,xs,i,z,rfl,rfl,hq,he,q⟩:=h;cases rx;obtain⟨t,rfl⟩:=ry;obtain⟨ak,r,pl,hz⟩:=I.list hq;obtain⟨j,h1,h2,h3,h4,h5⟩:=rA he;obtain⟨w,ew,rw'⟩:=r.get h2;have hl:=r.length;have hn:=kq;have fin:EP X pins σ Q w s:=⟨z,H,I,rw',q⟩
 by_cases h0:0<=i
 . have hj:i.toNat=j:=by
    rw[aaL h0 h5] at h1;exact U0 h1
   exact item_listR pl.isList h0 (by omega) (by rw[hj];simpa using ew) fin hs
 . have hj:(i+(ak.toArray.size)).toNat=j:=by
    rw[aar (by omega) h4] at h1;rw[Ux,<- hl];exact U0 h1
   exact YU (x:=w) pl.isList.typeIs slot_list_getitem.lookup
    (wpAny_getItem_list_neg (Q:=λr s'=>r=w/\EP X pins σ Q r s') pl.isList (by omega) (by simp_all) (by omega) (by rw[hj];simpa using ew) ⟨rfl,fin⟩) hs
theorem LR:yF X (P6 X.K):=by
 intro value slice pins s σ H x y v u Q I rx ry h hs;obtain⟨p,xs,i,z,rfl,rfl,hq,he,q⟩:=h;cases rx;obtain⟨t,rfl⟩:=ry;obtain⟨ak,r,pl,hz⟩:=I.tuple hq;obtain⟨j,h1,h2,h3,h4,h5⟩:=rA he;obtain⟨w,ew,rw'⟩:=r.get h2;have hl:=r.length;have hn:=kq;have fin:EP X pins σ Q w s:=⟨z,H,I,rw',q⟩
 exact YU (x:=w) pl.typeIs U3.lookup
  (getItem_tuple (j:=j) (Q:=λr s'=>r=w/\EP X pins σ Q r s') pl (by omega) (by omega) (by rw[Ux,<- hl];exact h1) (by simpa using ew) ⟨rfl,fin⟩) hs
theorem Mu:yF X N8:=by
 intro value slice pins s σ H x y v u Q I rx ry h hs;obtain⟨z,i,c,rfl,rfl,hz,he,q⟩:=h;obtain⟨t,rfl⟩:=rx;obtain⟨t',rfl⟩:=ry;obtain⟨j,h1,h2,h3,h4,h5⟩:=rA he;have hl:z.cps.toList.length=z.length:=by rfl
 rw[hl] at h1 h4 h5;have hn:=kq;exact tail_any (Xt s z t) slot_str_getitem.lookup (getItem_str (c:=c) (by
  grind) (by rw[h1];simpa using h2) ⟨.str ⟨#[c]⟩,H,I.tok _,⟨_,rfl⟩,q⟩) hs
def Tg(K:TQ):R2:=λx y H Q=>OV K x y H Q\/P6 K x y H Q\/N8 x y H Q
theorem Mr:yF X (Tg X.K):=GL.or (LR.or Mu)
theorem vn(ak:List TY) n j u:Wd (·.setIfInBounds j u) { cls:= .type "list",data:= .seq ak.toArray n}={ cls:= .type "list",data:= .seq (ak.set j u).toArray n}:=by
 simp[Wd]
theorem Inv.lst{pins}{σ :St}{H s p xs}(I:Inv X pins σ H s)(h:H p=TK (.lst xs)) :
  ∃(ak:List TY)(n:Nat),Vals xs ak/\s.heap.get? p=TK { cls:= .type "list",data:= .seq ak.toArray n}/\xs.length<=Ub:=by
 obtain⟨z,ak,n,r,e⟩:=I.bx p _ h;exact⟨ak,n,r,e,z⟩
theorem Inv.KJ{pins:List (Uj × Obj)}{σ :St}{H:Hp}{s:Ua}{p:Uj}{xs ys:List V}{ak its':List TY}{n n':Nat}{f:Obj->Obj}(I:Inv X pins σ H s)(h:H p=TK (.lst xs))
  (ho:s.heap.get? p=TK { cls:= .type "list",data:= .seq ak.toArray n}) (hf:f { cls:= .type "list",data:= .seq ak.toArray n}={ cls:= .type "list",data:= .seq its'.toArray n'}) (r:Vals ys its') (hz:ys.length<=Ub) (t:Nat) :
  Inv X pins σ (upd H p (.lst ys)) { s with heap:=s.heap.update p f,toks:=t}:=by
 have e:(s.heap.update p f).get? p=TK { cls:= .type "list",data:= .seq its'.toArray n'}:=by
  rw[We f ho (by rw[hf]<;>rfl),hf]
 refine I.write (x:=p) (e:=p) (by rw[h];trivial) (.inl rfl) (λb u hb q=>(V8 _ _ (VI hb)).trans q) ⟨_,e⟩ ?_;exact⟨hz,its',n',r,e⟩
def N6:V->V->V->Hp->(Hp->Prop)->Prop:=λo i v H Q=> ∃ p xs k j,o= .ref p/\i= .int k/\H p=TK (.lst xs)/\vQ xs.length k=TK j/\Q (upd H p (.lst (xs.set j v)))
theorem set_list:pV X N6:=by
 intro pins s σ H o i v ov iv u Q I ro ri rv h;obtain⟨p,xs,k,j,rfl,rfl,hp,hj,q⟩:=h;cases ro;obtain⟨t,rfl⟩:=ri;obtain⟨ak,n,r,ho,hz⟩:=I.lst hp;obtain⟨h1,h2,h3,h4⟩:=xt hj;have hl:=r.length;have hn:=kq;have I' :=
  I.KJ hp ho (vn ak n j u) (r.set rv j) (by rw[UA];exact hz) s.toks
 by_cases h0:0<=k
 . have hk:k.toNat=j:=by
    rw[aaL h0 h4] at h1;exact U0 h1
   exact PySem.W.ki_setAt ho h0 (by omega) (by rw[Ux,<- hl];exact h4) (by rw[hk];exact⟨_,I',q⟩)
 . have hk:(k+(ak.toArray.size)).toNat=j:=by
    rw[aar (by omega) h3] at h1;rw[Ux,<- hl];exact U0 h1
   exact PySem.W.ki_setBack ho (by omega) (by simp_all) (by omega) (by rw[hk];exact⟨_,I',q⟩)
theorem rW lo hi n:(Yl lo hi TL n).1=((HT.dm n 0 lo))/\(Yl lo hi TL n).2.1=((HT.dm n n hi))/\(Yl lo hi TL n).2.2=1:=by
 refine⟨?_,?_,rfl⟩
 . cases lo with
   | none=>rfl
   | some i =>
    simp only[Yl,HT.dm,aaF,show(1:Int) > 0 by decide,if_true]
    by_cases h:i < 0
    . simp only[h,if_true]<;>omega
    . simp only[h,if_false]<;>omega
 . cases hi with
   | none=>rfl
   | some i =>
    simp only[Yl,HT.dm,aaF,show(1:Int) > 0 by decide,if_true]
    by_cases h:i < 0
    . simp only[h,if_true]<;>omega
    . simp only[h,if_false]<;>omega
theorem pP(ak:List TY) lo hi:slicePick ak.toArray lo hi TL=((ak.drop (HT.dm ak.length 0 lo)).take (HT.dm ak.length ak.length hi - HT.dm ak.length 0 lo)).toArray:=by
 obtain⟨h1,h2,h3⟩:=rW lo hi ak.toArray.size;unfold slicePick;rw[h1,h2,h3];simp only[sliceRange_one,pick_run]<;>rfl
def Ol(K:TQ):V->Option Int->Option Int->Hp->VK->Prop:=λx lo hi H Q=> ∃ a xs,x= .ref a/\fA K H a xs/\ ∀ p,H p=TL->Q (.ref p) (upd H p (.lst (mK xs lo hi)))
theorem Fi:C5 X (Ol X.K):=by
 intro pins s σ H x v vl vu lo hi sl Q I rx hs pl pu h;obtain⟨a,xs,rfl,hx,q⟩:=h;cases rx;obtain⟨ak,r,ht,hz⟩:=I.list hx;have hlen:=r.length;refine⟨"list",_,slot_list_getitem.lookup,ht.isList.typeIs,?_⟩;refine wpAny_getItem_list_slice ht.isList hs pl pu .none (by simp) ?_ (by simp_all);rw[pP,<- hlen];refine⟨.ref s.heap.objs.size,_,I.laid (t':=s.toks) (o:= .lst (mK xs lo hi)) (λb ob q=>T1 _ q) (T6 _) ?_,rfl,q _ (I.bx.fresh (T6 _))⟩;exact⟨UQ (lN xs lo hi) hz,_,0,(r.drop (HT.dm xs.length 0 lo)).take (HT.dm xs.length xs.length hi - HT.dm xs.length 0 lo),Up _ rfl⟩
noncomputable def gX:V->Bool
 | .non=>true
 | .bl _=>true
 | .int _=>true
 | .str _=>true
 | _=>false
noncomputable def F7:V->V->Bool
 | .non,.non=>true
 | .bl a,.bl b=>a == b
 | .bl a,.int b=>(if a then 1 else 0) == b
 | .int a,.bl b=>a == (if b then 1 else 0)
 | .int a,.int b=>a == b
 | .str a,.str b=>a == b
 | _,_=>false
theorem Lx(ry:RelV y u)(rx:RelV x v)(fy:gX y=true)(fx:gX x=true):SeqAt.EqAt A s u v (F7 y x):=by
 cases y with
 | non =>
  cases ry
  cases x with
  | non=>cases rx;exact SeqAt.EqAt.same _
  | bl b=>cases rx;exact SeqAt.EqAt.none_bool b
  | int b=>obtain⟨t,rfl⟩:=rx;exact SeqAt.EqAt.none_int b t
  | str b=>obtain⟨t,rfl⟩:=rx;exact SeqAt.EqAt.none_str b t
  | _=>exact absurd (show false=true from fx) Ut
 | bl a =>
  cases ry
  cases x with
  | non=>cases rx;exact SeqAt.EqAt.bool_none a
  | bl b=>cases rx;exact SeqAt.EqAt.bool_bool a b
  | int b=>obtain⟨t,rfl⟩:=rx;exact SeqAt.EqAt.bool_int a b t
  | str b=>obtain⟨t,rfl⟩:=rx;exact SeqAt.EqAt.bool_str a b t
  | _=>exact absurd (show false=true from fx) Ut
 | int a =>
  obtain⟨t',rfl⟩:=ry
  cases x with
  | non=>cases rx;exact SeqAt.EqAt.int_none a t'
  | bl b=>cases rx;exact SeqAt.EqAt.int_bool a t' b
  | int b=>obtain⟨t,rfl⟩:=rx;exact SeqAt.EqAt.int_int a t' b t
  | str b=>obtain⟨t,rfl⟩:=rx;exact Z6 a t' b t
  | _=>exact absurd (show false=true from fx) Ut
 | str a =>
  obtain⟨t',rfl⟩:=ry
  cases x with
  | non=>cases rx;exact SeqAt.EqAt.str_none a t'
  | bl b=>cases rx;exact SeqAt.EqAt.str_bool a t' b
  | int b=>obtain⟨t,rfl⟩:=rx;exact Z7 a t' b t
  | str b=>obtain⟨t,rfl⟩:=rx;exact SeqAt.EqAt.str_str a t' b t
  | _=>exact absurd (show false=true from fx) Ut
 | _=>exact absurd (show false=true from fy) Ut
def EK x (u:TY):=match u with
 | .none=>F7 .non x
 | .bool b=>F7 (.bl b) x
 | .int i _=>F7 (.int i) x
 | .str z _=>F7 (.str z) x
 | _=>false
theorem Ak(r:RelV y u)(f:gX y=true):EK x u=F7 y x:=by
 cases y with
 | non=>cases r;rfl
 | bl b=>cases r;rfl
 | int i=>obtain⟨t,rfl⟩:=r;rfl
 | str z=>obtain⟨t,rfl⟩:=r;rfl
 | _=>exact absurd (show false=true from f) Ut
theorem sk: ∀{xs us},Vals xs us->xs.all gX=true->us.any (EK x)=xs.any λy=>F7 y x
 | _,_,.nil,_=>rfl
 | y::xs,u::us,.cons r t,f=>by
  rw[WJ,Uw] at f;rw[Wa,Wa,Ak r f.1,sk t f.2]
theorem o9(rx:RelV x v)(fx:gX x=true): ∀{xs us},Vals xs us->xs.all gX=true-> ∀ u∈us,SeqAt.EqAt A s u v (EK x u)
 | _,_,.nil,_=>λu hu=>by cases hu
 | y::xs,u::us,.cons r t,f=>λu' hu=>by
  rw[WJ,Uw] at f;rcases Uh.mp hu with rfl | hu
  . rw[Ak r f.1];exact Lx r rx f.1 fx
  . exact o9 rx fx t f.2 u' hu
def OA x (xs:List V):=xs.any λy=>F7 y x
def Tv(K:TQ)(neg:Bool):R2:=λx y H Q=> ∃ p xs,y= .ref p/\(fA K H p xs\/fK K H p xs)/\gX x=true/\xs.all gX=true/\Q (.bl (if neg then !OA x xs else OA x xs)) H
theorem y9:cT X (UJ .In) (Tv X.K false):=by
 intro pins s σ H x y v u Q I rx ry h;obtain⟨p,xs,rfl,hq,fx,fs,q⟩:=h;cases ry;rcases hq with hq | hq
 . obtain⟨ak,r,pl,hz⟩:=I.list hq;refine SeqAt.in_listAt (EK x) pl.isList (λw hw=>o9 rx fx r fs w (by simpa using hw)) ⟨.bl _,H,I,rfl,?_⟩;rw[show ak.toArray.any (EK x)=ak.any (EK x) by simp,sk r fs];exact q
 . obtain⟨ak,r,pl,hz⟩:=I.tuple hq;refine SeqAt.in_tupleAt (EK x) pl (λw hw=>o9 rx fx r fs w (by simpa using hw)) ⟨.bl _,H,I,rfl,?_⟩;rw[show ak.toArray.any (EK x)=ak.any (EK x) by simp,sk r fs];exact q
theorem rh:bj X (.builtin "len") (λxs H Q=> ∃ p ys,xs=[.ref p]/\(fA X.K H p ys\/fK X.K H p ys)/\Q (.int ys.length) H):=by
 intro pins s σ H xs us Q I r h;obtain⟨p,ys,rfl,hq,q⟩:=h;obtain⟨u,rfl,rx⟩:=vals1 r;cases rx;have hn:=kq;rcases hq with hq | hq
 . obtain⟨ak,r',pl,hz⟩:=I.list hq;have hlen:=r'.length;exact Calls.call_len_list pl.isList (by simp only[Ux]<;>omega) ⟨.int ys.length,H,I.tok _,⟨s.toks+1,by rw[Ux,hlen]⟩,q⟩
 . obtain⟨ak,r',pl,hz⟩:=I.tuple hq;have hlen:=r'.length;exact len_tuple pl (by simp only[Ux]<;>omega) ⟨.int ys.length,H,I.tok _,⟨s.toks+1,by rw[Ux,hlen]⟩,q⟩
theorem rE:bj X (.builtin "len") (λxs H Q=> ∃ z,xs=[.str z]/\z.length<=Ub/\Q (.int z.length) H):=by
 intro pins s σ H xs us Q I r h;obtain⟨z,rfl,hz,q⟩:=h;obtain⟨u,rfl,t,rfl⟩:=vals1 r;have hn:=kq;exact len_str (by omega) ⟨.int z.length,H,I.tok _,⟨_,rfl⟩,q⟩
theorem bj.or(h:bj X f r)(h':bj X f r'):bj X f (λxs H Q=>r xs H Q\/r' xs H Q):=by
 intro pins s σ H xs us Q I rs q;rcases q with q | q
 . exact h pins s σ H xs us Q I rs q
 . exact h' pins s σ H xs us Q I rs q
theorem r9:bj X (.type "list") (λxs H Q=> ∃ p ys,xs=[.ref p]/\(fA X.K H p ys\/fK X.K H p ys)/\ ∀ l,H l=TL->Q (.ref l) (upd H l (.lst ys))):=by
 intro pins s σ H xs us Q I r h;obtain⟨p,ys,rfl,hq,q⟩:=h;obtain⟨u,rfl,rx⟩:=vals1 r;cases rx;have fin: ∀(ak:List TY),Vals ys ak->ys.length<=Ub-> ∀(h':Vx)(c':Nat),(∀ b o',s.heap.get? b=TK o'->h'.get? b=TK o') ->
   h'.get? s.heap.objs.size=TK { cls:= .type "list",dict:=TL,data:= .seq ak.toArray c',slots:= #[]}->EP X pins σ Q (.ref s.heap.objs.size) { s with heap:=h'}:=λak r' hz h' c' kp e =>
  ⟨.ref s.heap.objs.size,_,I.laid (t':=s.toks) kp (T6 _) (show bo X.prog X.w _ h' _ (.lst ys) from⟨hz,ak,c',r',e⟩),rfl,q _ (I.bx.fresh (T6 _))⟩
 rcases hq with hq | hq
 . obtain⟨ak,r',pl,hz⟩:=I.list hq;have hlen:=r'.length;obtain⟨o,ho,hc,n,hd⟩:=pl.isList;exact call_list_seq p (.inl rfl) ho hc hd (λh' c' kp e=>fin ak r' hz h' c' kp e) (by simp only[Ux]<;>omega)
 . obtain⟨ak,r',pl,hz⟩:=I.tuple hq;have hlen:=r'.length;obtain⟨o,ho,hc,n,hd⟩:=pl;exact call_list_seq p (.inr rfl) ho hc hd (λh' c' kp e=>fin ak r' hz h' c' kp e) (by simp only[Ux]<;>omega)
theorem pQ:bj X (.type "tuple") (λxs H Q=> ∃ p ys,xs=[.ref p]/\((fA X.K H p ys/\ ∀ l,H l=TL->Q (.ref l) (upd H l (.tup ys)))\/(fK X.K H p ys/\Q (.ref p) H))):=by
 intro pins s σ H xs us Q I r h;obtain⟨p,ys,rfl,h⟩:=h;obtain⟨u,rfl,rx⟩:=vals1 r;cases rx;rcases h with⟨hq,q⟩ | ⟨hq,q⟩
 . obtain⟨ak,r',pl,hz⟩:=I.list hq;have hlen:=r'.length;refine call_tuple_list pl.isList (λh' kp=>?_) (by simp_all);have I1:=I.kept (t':=s.toks) kp;have I2 :=
    I1.laid (t':=s.toks) (λb o e=>T1 _ e) (T6 _) (show bo X.prog X.w _ _ _ (.tup ys) from⟨hz,ak,r',pM.new _ _⟩)
   exact⟨.ref h'.objs.size,_,I2,rfl,q _ (I1.bx.fresh (T6 _))⟩
 . obtain⟨ak,r',pl,hz⟩:=I.tuple hq;exact call_tuple_same pl ⟨.ref p,H,I,rfl,q⟩
def K3(K:TQ)(T:String)(x:V)(H:Hp):Prop:=match x with
 | .str _=>T= "str"
 | .int _=>T= "int"
 | .ref p=>(T= "list" /\ ∃ xs,fA K H p xs)\/(T= "tuple" /\ ∃ o,K.lookup p=TK o/\o.cls= .type "tuple" /\o.dict=TL) \/
   (T= "dict" /\((∃ kvs,H p=TK (.dK kvs))\/ ∃ kvs,H p=TK (.dT kvs)))\/(T= "set" /\ ∃ S n,H p=TK (.set S n))
 | _=>False
theorem BE{σ :St}(I:Inv X pins σ H s)(r:RelV x v)(ty:K3 X.K T x H) :
  s.TypeIs v T/\ ∀ a,v= .ref a-> ∃ ob,s.heap.get? a=TK ob/\ob.dict=TL:=by
 cases x with
 | str z =>
  obtain⟨t,rfl⟩:=r
  cases(show T= "str" from ty)
  exact⟨Xt s z t,λ_ e=>by cases e⟩
 | int i =>
  obtain⟨t,rfl⟩:=r
  cases(show T= "int" from ty)
  exact⟨YV s i t,λ_ e=>by cases e⟩
 | ref p =>
  cases r
  rcases ty with⟨rfl,xs,hq⟩ | ⟨rfl,o,hk,hc,hd⟩ | ⟨rfl,hk⟩ | ⟨rfl,S,n,hk⟩
  . obtain⟨ak,_,pl,_⟩:=I.list hq;refine⟨pl.isList.typeIs,λa e=>?_⟩;cases e;obtain⟨o,n,e,c,hd,_⟩:=pl;exact⟨o,e,hd⟩
  . refine⟨⟨o,I.ib p o hk,hc⟩,λa e=>?_⟩;cases e;exact⟨o,I.ib _ o hk,hd⟩
  . have z: ∃ o,s.heap.get? p=TK o/\o.ExactDict:=by
     rcases hk with⟨kvs,hk⟩ | ⟨kvs,hk⟩
     . obtain⟨_,_,_,_,o,_,_,e,ex,_⟩:=I.bx p _ hk;exact⟨o,e,ex⟩
     . obtain⟨_,_,_,_,o,_,_,e,ex,_⟩:=I.bx p _ hk;exact⟨o,e,ex⟩
    obtain⟨o,e,ex⟩:=z;refine⟨⟨o,e,ex.1⟩,λa e2=>?_⟩;cases e2;exact⟨o,e,ex.2.1⟩
  . obtain⟨o,_,_,_,e,ex,_⟩:=I.bx p _ hk;refine⟨⟨o,e,ex.1⟩,λa e2=>?_⟩;cases e2;exact⟨o,e,ex.2.1⟩
 | _=>exact VG ty
noncomputable def R7(K:TQ)(T:String)(r:V->List V->Hp->VK->Prop)(to:TE):TE:=fun σ H Q=>to σ H λx H1=>K3 K T x H1/\r x [] H1 Q
noncomputable def SJ(K:TQ)(T:String)(r:V->List V->Hp->VK->Prop)(to:TE)(t:TA):TE:=fun σ H Q=>to σ H λx H1=>K3 K T x H1/\t σ H1 λxs H2=>r x xs H2 Q
variable{o e:UR}{es:List UR}{to:TE}{t:TA}{name:Str}{apos cpos:Pos}{T id:String}{r:V->List V->Hp->VK->Prop}
theorem Km(pa:YW T)(slot:Slot T name id)(hty:aaZ (.builtin id)=pure (.type "method_descriptor"))(hm:vz X id r)(ho:PE X o to)
  (hbase:VQ o name X.env (Vl o X.env)=Vl o X.env:=by rfl) (hline:(apos.endLine == cpos.line)=true:=by rfl):PE X (.Call (.Attribute o name apos) [] [] cpos) (R7 X.K T r to):=by
 intro pins s σ H Q I h;refine wpAny_Call_method0_late hbase hline (eF (ho pins s σ H _ I h) λv s1 ⟨x,H1,I1,r1,ty,q1⟩=>?_);obtain⟨h1,h2⟩:=BE I1 r1 ty;exact⟨T,id,pa,slot,hty,h1,h2,YX rfl (PySem.evalArgs_none (hm pins s1 σ H1 x [] v [] Q I1 r1 .nil q1))⟩
theorem Ou(pa:YW T)(slot:Slot T name id)(hty:aaZ (.builtin id)=pure (.type "method_descriptor"))(hm:vz X id r)(ho:PE X o to)(ha:PA X (e::es) t)
  (hbase:VQ o name X.env (Vl o X.env)=Vl o X.env:=by rfl)
  (hfew:((Wq cpos (UH (e::es) X.env)).all (λx=> !x.1)&&(YC cpos (Xb [] X.env)).all (λx=>x.1.isSome)
   && decide ((e::es).length+([]:List ZM).length+(if ([]:List ZM).isEmpty then 0 else 1) < 30))=true:=by rfl)
  (hline:(apos.endLine == cpos.line)=true:=by rfl) (hs:UH (e::es) X.env=(false,Vl e X.env)::UH es X.env:=by rfl) (hplain:(Wq cpos (UH es X.env)).any (·.1)=false:=by rfl) :
  PE X (.Call (.Attribute o name apos) (e::es) [] cpos) (SJ X.K T r to t):=by
 intro pins s σ H Q I h;refine wpAny_Call_method_late hbase hfew hline rfl (jg (ho pins s σ H _ I h) λv s1 x H1 I1 r1 ⟨ty,q1⟩=>?_);obtain⟨h1,h2⟩:=BE I1 r1 ty;refine⟨T,id,pa,slot,hty,h1,h2,?_⟩;have hA:=ha cpos pins s1 σ H1 _ I1 q1;rw[hs] at hA ⊢;refine YX (by show(false||(Wq cpos (UH es X.env)).any (·.1))=false;rw[hplain]<;>rfl) (Calls.evalArgs_plain ?_)
 exact Ff hA λus s2 vs H2 I2 r2 q2=>hm pins s2 σ H2 x vs v us Q I2 r1 r2 q2
/- xs.append(e),list.index on a module's tuple .. are vz facts of 06m -/
end
def QL X (id:String) (r:V->List V->Hp->VK->Prop) :=
 ∀ pins s(σ :St) H x xs v us Q,Inv X pins σ H s->RelV x v->Vals xs us->r x xs H Q ->
  Ur (Uu X.prog X.w) X.A (call (.builtin id) (v::us)) (EP X pins σ Q) X.xe s
theorem Vals.one{x:V}{us:List TY}(h:Vals [x] us): ∃ u,us=[u]/\RelV x u:=by
 cases h with
 | cons r t=>cases t;exact⟨_,rfl,r⟩
theorem Vals.two{x y:V}{us:List TY}(h:Vals [x,y] us): ∃ u v,us=[u,v]/\RelV x u/\RelV y v:=by
 cases h with
 | cons r t=>cases t with
  | cons q t=>cases t;exact⟨_,_,rfl,r,q⟩
theorem Vals.zero: ∀{us},Vals [] us->us=[]
 | _,.nil=>rfl
theorem Vals.dropLast{xs:List V}{us:List TY}(h:Vals xs us):Vals xs.dropLast us.dropLast:=by
 induction h with
 | nil=>exact .nil
 | cons r t ih =>
  cases t with
  | nil=>exact .nil
  | cons q t'=>exact .cons r ih
theorem Vals.reverse{xs:List V}{us:List TY}(h:Vals xs us):Vals xs.reverse us.reverse:=by
 induction h with
 | nil=>exact .nil
 | cons r t ih=>rw[Xk,Xk];exact Vals.append ih (.cons r .nil)
theorem Vals.rep(h:Vals xs us): ∀ k ,Vals (Ue k xs).flatten (Ue k us).flatten
 | 0=> .nil
 | k+1=>by
  exact Vals.append h (Vals.rep h k)
theorem foldl_rep(ak:List TY): ∀ k acc,
  aa0 (λx1 x2=>x1++x2) acc.toArray (Ue k ak.toArray)=(acc++(Ue k ak).flatten).toArray
 | 0,acc=>by simp
 | k+1,acc=>by
  have e:acc.toArray++ak.toArray=(acc++ak).toArray:=by simp
  have e2:(acc++ak)++(Ue k ak).flatten=acc++(Ue (k+1) ak).flatten:=by
   rw[ZR,List.flatten_cons,TZ]
  rw[<- e2,<- foldl_rep ak k (acc++ak),<- e,ZR,List.foldl_cons]
section
variable{X:Cx}{pins:List (Uj × Obj)}{σ :St}{H:Hp}{s:Ua}{l b:Uj}{xs ys zs:List V}
theorem Inv.Ib{ak its':List TY}{n:Nat}{f:Array TY->Array TY}{t':Nat}(I:Inv X pins σ H s)(hH:H l=TK (.lst xs))
  (e:s.heap.get? l=TK { cls:= .type "list",data:= .seq ak.toArray n}) (hf:f ak.toArray=its'.toArray) (hv:Vals ys its') (hz:ys.length<=Ub) :
  Inv X pins σ (upd H l (.lst ys)) { s with heap:=s.heap.update l (Wd f),toks:=t'}:=by
 have q:=PySem.IsL.update e f;rw[hf] at q;refine I.write (x:=l) (e:=l) (by rw[hH];exact trivial) (.inl rfl) (λb' u hb hu=>(V8 s.heap (Wd f) (VI hb)).trans hu) ⟨_,q⟩ ?_;exact⟨hz,its',_,hv,q⟩
theorem Inv.Nx(I:Inv X pins σ H s)(hv:Vals ys ak)(hz:ys.length<=Ub) :
  Inv X pins σ (upd H s.heap.objs.size (.lst ys)) { s with heap:=s.heap.push { cls:= .type "list",data:= .seq ak.toArray},toks:=t'} :=
 I.laid (λ_ _ q=>T1 _ q) (T6 _) ⟨hz,ak,0,hv,Up _ rfl⟩
theorem Inv.fresh(I:Inv X pins σ H s):H s.heap.objs.size=TL:=I.bx.fresh (T6 _)
theorem Inv.tU(I:Inv X pins σ H s)(hH:H l=TK (.lst xs)):xs.length<=Ub/\ ∃(ak:List TY)(n:Nat),Vals xs ak/\xs.length=ak.length/\s.heap.get? l=TK { cls:= .type "list",data:= .seq ak.toArray n}:=by
 obtain⟨z,ak,n,r,e⟩:=I.bx l _ hH;exact⟨z,ak,n,r,r.length,e⟩
theorem ug(h:n<=Ub):WY n=false:=by
 exact decide_eq_false (by omega)
end
section
variable{X:Cx}
def Et:V->List V->Hp->VK->Prop:=λx vs H Q=> ∃ l xs y,x= .ref l/\vs=[y]/\H l=TK (.lst xs)/\xs.length < Ub/\Q .non (upd H l (.lst (xs++[y])))
theorem yX:QL X "list.append" Et:=by
 intro pins s σ H x vs v us Q I rx rv h;obtain⟨l,xs,y,rfl,rfl,hH,hz,q⟩:=h;cases rx;obtain⟨u,rfl,ru⟩:=rv.one;obtain⟨z,ak,n,r,hl,e⟩:=I.tU hH;refine VS F.slot_list_append ⟨_,e,rfl⟩ F.entry_list_append (F.args_list_append_2 _ _) (PySem.list_append l ak.toArray n u (by simp_all)) ⟨e,?_⟩;refine⟨.non,_,I.Ib (its':=ak++[u]) hH e (by simp) (r.append (.cons ru .nil)) ?_,rfl,q⟩;rw[TX,UC];omega
def Gn:V->List V->Hp->VK->Prop:=λx vs H Q=> ∃ l b xs zs,x= .ref l/\vs=[.ref b]/\H l=TK (.lst xs)/\H b=TK (.lst zs)/\xs.length+zs.length<=Ub/\Q .non (upd H l (.lst (xs++zs)))
theorem x8:QL X "list.extend" Gn:=by
 intro pins s σ H x vs v us Q I rx rv h;obtain⟨l,b,xs,zs,rfl,rfl,hH,hB,hz,q⟩:=h;cases rx;obtain⟨u,rfl,ru⟩:=rv.one;cases ru;obtain⟨z,ak,n,r,hl,e⟩:=I.tU hH;obtain⟨z2,its2,n2,r2,hl2,e2⟩:=I.tU hB;have hsz:ak.toArray.size+its2.toArray.size<=Ub:=by rw[Ux,Ux];omega
 have hlong: ¬ (!ak.toArray.isEmpty&&WY (ak.toArray.size+its2.toArray.size))=true:=by
  rw[ug hsz,Zv];exact Ut
 refine VS F.slot_list_extend ⟨_,e,rfl⟩ F.entry_list_extend (F.args_list_extend_2 _ _)
  (AutoSeq1.list_extend_list_list_0 l ak.toArray n b its2.toArray n2 hlong (by rw[Ux];omega) (by omega)) ⟨e,e2,?_⟩
 refine⟨.non,_,I.Ib (its':=ak++its2) hH e (by simp) (r.append r2) ?_,rfl,q⟩;rw[TX];omega
def NG:R2:=λx y H Q=> ∃ l b xs zs,x= .ref l/\y= .ref b/\H l=TK (.lst xs)/\H b=TK (.lst zs)/\xs.length+zs.length<=Ub/\ ∀ p,H p=TL->Q (.ref p) (upd H p (.lst (xs++zs)))
theorem Mq:cT X (VC .Add) NG:=by
 intro pins s σ H x y v u Q I rx ry h;obtain⟨l,b,xs,zs,rfl,rfl,hH,hB,hz,q⟩:=h;cases rx;cases ry;obtain⟨z,ak,n,r,hl,e⟩:=I.tU hH;obtain⟨z2,its2,n2,r2,hl2,e2⟩:=I.tU hB;refine PySem.P.add_list e e2 ?_ (by simp_all);have ea:ak.toArray++its2.toArray=(ak++its2).toArray:=by simp
 rw[ea];exact⟨.ref _,_,I.Nx (t':=s.toks) (r.append r2) (by rw[TX];omega),rfl,q _ I.fresh⟩
def RT:R2:=λx y H Q=> ∃ l k xs,x= .ref l/\y= .int k/\H l=TK (.lst xs)/\ -(2 ^ 63)<=k/\k < 2 ^ 63/\xs.length*k.toNat<=Ub /\
 ∀ p,H p=TL->Q (.ref p) (upd H p (.lst (Ue k.toNat xs).flatten))
theorem len_rep{α :Type}(xs:List α) k:(Ue k xs).flatten.length=k*xs.length:=by
 simp_all
theorem Jf:cT X (VC .Mult) RT:=by
 intro pins s σ H x y v u Q I rx ry h;obtain⟨l,k,xs,rfl,rfl,hH,h1,h2,hz,q⟩:=h;cases rx;obtain⟨t,rfl⟩:=ry;obtain⟨z,ak,n,r,hl,e⟩:=I.tU hH;have hlen:ak.toArray.size*k.toNat<=Ub:=by rw[Ux,<- hl];exact hz
 have hcap: ¬ ak.toArray.size*k.toNat > (2 ^ 63 - 1) / 8:=by
  have:(Ub)<=(2 ^ 63 - 1) / 8:=by decide
  omega
 have hfit: ¬ (!Builtin.List.listFitsIndex k)=true:=by
  rw[fitsIndex_both h1 h2];exact Ut
 have hlong: ¬ WY (ak.toArray.size*k.toNat)=true:=by
  rw[ug hlen];exact Ut
 have hnew:aa0 (λx1 x2=>x1++x2) #[] (Ue (if ak.toArray.isEmpty=true then 0 else k.toNat) ak.toArray)=(Ue k.toNat ak).flatten.toArray:=by
  have f0:=λm=>by
   have:=foldl_rep ak m [];rw[UU] at this;exact this
  rw[f0];cases ak with
  | nil=>simp
  | cons a r'=>rfl
 refine Yf (T:= "list") (U:= "int") (by decide) ⟨_,e,rfl⟩ (λs'=>YV s' k t) noFill_list_mul F.fills_int_mul F.slot_int_rmul repeat_list F.slot_int_index.lookup
  (VS F.slot_int_rmul (YV s k t) F.entry_int_rmul (F.args_int_rmul_2 _ _) (int___rmul___int_list k t l ak.toArray n)
   ⟨e,rfl,⟨_,e,rfl⟩,VS F.slot_list_mul ⟨_,e,rfl⟩ F.entry_list_mul (F.args_list_mul_2 _ _) (AutoListH.list___mul___list_int_3 l ak.toArray n k t hfit hcap hlong) ⟨e,?_⟩⟩)
 rw[hnew];exact⟨.ref _,_,I.Nx (t':=s.toks) (r.rep k.toNat) (by rw[len_rep,aas];exact hz),rfl,q _ I.fresh⟩
end
end L2
namespace Att
open PySem PySem.W PySem.Calls PyProof.Rows
theorem mJ: ∀ ns vs,WellAll P h vs (ns.map WData.int)->aaU vs ns:=by
 intro ns
 induction ns with
 | nil =>
  intro vs w
  cases w
  exact .nil
 | cons n ns ih =>
  intro vs w
  cases w with
  | cons a b =>
   cases a
   exact .cons _ _ (ih _ b)
theorem xY{l : XA}(hn : l.most = TK n) 
    (hpre : l.row.toRowW.claim.pre args = true) (hwl : WellAll P h vals args) :
    ∃ a vs ns, vals = [Uv a] /\ args = [WData.list (ns.map WData.int)] /\ h.get? a = TK { cls := .type "list", data := .seq vs.toArray} /\ aaU vs ns /\ ns.length <= n := by
  have hsh : WShape.hasAll [] args [.list .int] = true := (pre_splitW hpre).1;have hc : l.pre.holds [] { args := args} = true := (pre_splitW hpre).2;obtain ⟨d, r, rfl, h1, h2⟩ := hasAllW_cons hsh;obtain rfl := hasAllW_nil h2;obtain ⟨xs, rfl, h3⟩ := hasW_list h1;obtain ⟨ns, rfl⟩ := items_int h3;have hlen : ns.length <= n := by
    have h4 : (WTm.not (.lt (.lit (.int (n))) (.len (.arg 0)))).holds [] { args := [.list (ns.map .int)]} = true := by
      have h4 := (holds_andW hc).1;rw [hn] at h4;exact h4
    have h5 := condW_of h4 (w_not (w_lt w_lit (w_len_list (w_arg rfl))))
    first
      | (exact absurd h5 (by decide))
      | (simp at h5; omega)
  cases hwl with
  | cons w1 w2 =>
    cases w2
    cases w1 with
    | list ho hall => exact ⟨_, _, ns, rfl, rfl, ho, mJ ns _ hall, hlen⟩
theorem xF(l:XA) args:l.row.toRowW.claim.post args (.bool true) args=true :=
 postW_of (r:=l.row.toRowW) (X:=(true == true))
  (show WShape.has [] (.bool true) .bool=true by first | rfl | decide | simp [WShape.arms])
  (show(WTm.eq .res (.lit (.bool true))).value [] { args:=args,res:=TK (.bool true),after:=args}=TK (.bool (true == true)) from w_eq_bool (w_res rfl) w_lit) rfl
theorem tu{l:XA}{n:Nat}{q:UP}{loose:List Str}{XP:(Str->Option TY)->Vx->Prop}{YP:U6->Vx->Prop}{d:DefRec}
  (hn:l.most=TK n) (hdf:d.params.defaults=[])
  (call: ∀(w:U6)(s₀ s₁ :Ua)(mg mb:Str->Option TY)(fa:Uj)(o:Obj)(pm cd doc:TY)(a:Uj)(vs:List TY)(ns:List Int),
   Ground q loose [] XP w s₀ mg mb s₁.heap->YP w s₁.heap ->
   s₁.heap.get? fa=TK o->o.data= .func (docDef d.name d.params d.body d.scope pm cd doc)->s₁.heap.CodeRec cd d.name->mg d.name=TK (.ref fa) ->
   s₁.heap.get? a=TK { cls:= .type "list",data:= .seq vs.toArray}->aaU vs ns->ns.length<=n->s₁.gens= #[] ->
   WN (Uu l.prog w) ZN (.call (.ref fa) ⟨[.ref a],[]⟩) (λr s'=>r= .ok (.ret (.bool true))/\OldK s₁.heap s'.heap/\s'.os=s₁.os/\Yi s'.gens) s₁) :
  aaV q loose XP YP l.row.toRowW d [] (λf vs=>aa6 f vs):=by
 intro w s₀ s₁ mg mb G Y fa o pm cd doc dV kV ho hd hcd hD hmg hg args vals as hpre hlay hrd hwl hlo;obtain rfl:dV= .none:=Dflts.none hD hdf;obtain rfl:kV= .none:=Dflts.noKw hD;obtain⟨a,vs,ns,rfl,rfl,hobj,hints,hlen⟩:=xY hn hpre hwl;refine enter_call (YS (call w s₀ s₁ mg mb fa o pm cd doc a vs ns G Y ho (fd_plain hd) hcd hmg hobj hints hlen hg) λr s' hq=>?_);obtain⟨rfl,h2,h3,h4⟩:=hq;exact⟨.inl ⟨.bool true,.bool true,[],rfl,λ_=>rfl,.bool true,xF l _,λ_=>⟨List.Pairwise.nil,λ_ hm=>(by cases hm)⟩⟩,h2,h3,h4⟩
section
variable{prog:UP}{w:U6}{A:Vk}{E:TY->Ua->Prop}{s:Ua}{K:TQ}
noncomputable def ledger(h:Vx) L d:=(VY h.objs.size).filterMap λa=>if a=L\/a=d then TL else(h.get? a).map λo=>(a,o)
end
end Att
namespace L2
open PySem PySem.Spec PyProof.Rows
theorem qo: ∀{vs ns},aaU vs ns->Vals (ns.map V.int) vs
 | _,_,.nil=> .nil
 | _,_,.cons n t h=> .cons ⟨t,rfl⟩ (qo h)
def AV(H:Hp):= ∀ b,H b=TL\/ ∃ o xs,H b=TK (.je o (.lst xs))
theorem Bx{K} 
  (KX:K.In s₁.heap) (hns:s₁.heap.Ns UL mg) (hb:s₁.heap.Ns builtinsNs mb) (hbb: ∀ x:Str,x≠ "__name__" ->mb x=Vy x) (hlim:s₁.heap.NoLimit) (hg:s₁.gens= #[])
  (ha:s₁.heap.get? a=TK { cls:= .type "list",data:= .seq vs.toArray}) (hi:aaU vs ns) (hl:ns.length<=Ub) (hr:ck k ZN)
  (F: ∀ base ,K.In base->base.Ns UL mg->gi P w K mg base CX k fa fd [x] sp) (hbind: ∀ s u,YR s fd ⟨[u],[]⟩ [(x,u)])
  (hsp: ∀ H ,AV H->fA K H a (ns.map V.int)->sp [.ref a] H (λv _=>v= .bl true) λ_ _ _=>False)
  (hCX: ∀ H e s',CX [] H s₁ (λ_ _ _=>False) e s'->False) :
  WN (Uu P w) ZN (.call (.ref fa) ⟨[.ref a],[]⟩) (λr s'=>r= .ok (.ret (.bool true))/\OldK s₁.heap s'.heap/\s'.os=s₁.os/\Yi s'.gens) s₁ :=by
 have rv:=qo hi;have lenV:=hi.length;have core: ∀ H ,AV H->fA K H a (ns.map V.int)->jE P w H s₁.heap->(∀ b,H b≠TL->b=a)->(H a≠TL->K.lookup a=TL) ->
   WN (Uu P w) ZN (.call (.ref fa) ⟨[.ref a],[]⟩) (λr s'=>r= .ok (.ret (.bool true))/\OldK s₁.heap s'.heap/\s'.os=s₁.os/\Yi s'.gens) s₁ :=by
  intro H hO hS bx hA hK;have base_of: ∀{b:Uj}{o:Obj},s₁.heap.get? b=TK o->H b=TL->(tX s₁.heap H).get? b=TK o:=λe n=>BG e n;have noA: ∀{b:Uj}{o:Obj}{es:Array DictEntry}{ep:Nat},s₁.heap.get? b=TK o->o.data= .dict es ep->H b=TL:=λ{b o es ep} e d=>by
   cases q:H b with
   | none=>rfl
   | some u =>
    have e':=hA b (by rw[q];simp)
    subst e'
    rw[ha] at e;cases e
    have d':=d
    cases d'
  have nsK: ∀{b:Uj}{m:Str->Option TY},s₁.heap.Ns b m->(tX s₁.heap H).Ns b m:=λ{b m}=>by rintro ⟨o,es,ep,e,d,r⟩;exact⟨o,es,ep,base_of e (noA e d),d,r⟩
  have hKb:=λb o e=>base_of (KX b o e) (by
   cases q:H b with
   | none=>rfl
   | some u =>
    have e':=hA b (by rw[q];simp)
    subst e'
    rw[hK (by rw[q];simp)] at e;cases e)
  have hM:Mod K mg (tX s₁.heap H):=⟨hKb,nsK hns,⟨mb,nsK hb,hbb⟩,by obtain⟨mc,h1,h2⟩:=hlim;exact⟨mc,nsK h1,h2⟩⟩
  have e0:pT P w K mg (tX s₁.heap H) ZN [] s₁ H:=⟨rfl,hM,λb o e=>E2 e,Nat.le_of_eq (yf _ _),trivial,λb hb=>absurd (show b∈([]) from hb) (by simp),bx,.of_eq hg⟩
  refine YS ((F _ hKb (nsK hns)).run ZN [] s₁ H ⟨[.ref a],[]⟩ [.ref a] [.ref a] _ _ hr e0 (hbind s₁ (.ref a)) (.cons rfl .nil) (hsp H hO hS)) λr s' h=>?_;cases r with
  | error e=>exact(hCX H e s' h).elim
  | ok fl =>
   cases fl with
   | next=>exact VG h
   | brk=>exact VG h
   | cont=>exact VG h
   | ret u =>
    obtain⟨v,H',os,bare,un,hok',r',q⟩:=h
    have q':=q
    subst q'
    obtain rfl:u=Xr true:=r'
    refine⟨rfl,OldK.of_keep λb o e=>?_,os,bare⟩
    cases q:H b with
    | none=>exact un.keep b o e q (by intro z;exact absurd (show b∈([]) from z) (by simp)) (by simp)
    | some u =>
     rcases hO b with z | ⟨ob,xs,z⟩
     . rw[q] at z;cases z
     . have z2:=un.jO b ob _ z;obtain⟨e1,_⟩:=bx b _ z;obtain⟨e2,_⟩:=hok' b _ z2;rw[e] at e1;cases e1;exact e2
 cases hk:K.lookup a with
 | some o =>
  have e:=KX a o hk
  rw[ha] at e
  cases e
  refine core (λ_=>TL) (λ_=> .inl rfl) (.inr ⟨_,vs.toArray,_,hk,rfl,rfl,rfl,by simp_all,by omega⟩) (λb u z=>by simp_all) (λb z=>absurd rfl z) λz=>absurd rfl z
 | none =>
  refine core (λb=>if b=a then TK (.je { cls:= .type "list",data:= .seq vs.toArray} (.lst (ns.map V.int))) else TL) (λb=>?_) (.inl (.inr ⟨{ cls:= .type "list",data:= .seq vs.toArray},if_pos rfl⟩)) (λb u z=>?_) (λb z=>?_) λ_=>hk
  . by_cases hb:b=a
    . exact .inr ⟨_,_,if_pos hb⟩
    . exact .inl (if_neg hb)
  . by_cases hb:b=a
    . have z':=(if_pos hb).symm.trans z;cases z';subst hb;exact⟨ha,by simp_all,vs,_,rv,ha⟩
    . simp_all
  . by_cases hb:b=a
    . exact hb
    . exact absurd (if_neg hb) z
theorem GH{l:XA}{n k:Nat}{q:UP}{loose:List Str}{XP:(Str->Option TY)->Vx->Prop}{YP:U6->Vx->Prop}{d:DefRec}{K:Params->TQ}{CX:U6->Hl}{sp:U6->Sp}{x:Str}
  (hn:l.most=TK n) (hn2:n<=Ub) (hdf:d.params.defaults=[]) (hr:ck k ZN)
  (hY: ∀(w:U6)(h:Vx),YP w h->(K w.params).In h)
  (F: ∀(w:U6)(mg:Str->Option TY)(fa:Uj)(h:Vx),(K w.params).In h->h.Ns UL mg->mg d.name=TK (.ref fa) ->
   ∃ fd:WD,(∀(s:Ua)(u:TY),YR s fd ⟨[u],[]⟩ [(x,u)]) /\
    ∀ base:Vx,(K w.params).In base->base.Ns UL mg->gi l.prog w (K w.params) mg base (CX w) k fa fd [x] (sp w))
  (hsp: ∀(w:U6)(H:Hp)(a:Uj)(ns:List Int),ns.length<=n->AV H->fA (K w.params) H a (ns.map V.int)->sp w [.ref a] H (λv _=>v= .bl true) λ_ _ _=>False)
  (hCX: ∀(w:U6)(H:Hp)(s:Ua)(e:TY)(s':Ua),CX w [] H s (λ_ _ _=>False) e s'->False) :
  aaV q loose XP YP l.row.toRowW d [] (λf vs=>aa6 f vs):=by
 refine Att.tu hn hdf λw s₀ s₁ mg mb fa o pm cd doc a vs ns G Y ho hd hcd hmg hobj hints hlen hg=>?_;have KX:=hY w _ Y;obtain ⟨fd,hb,hF⟩:=F w mg fa _ KX G.T.g hmg;exact Bx KX G.T.g G.T.b G.T.builtins G.T.nolimit hg hobj hints (UQ hlen hn2) hr hF hb (λH hO hS=>hsp w H a ns hlen hO hS) λH e s'=>hCX w H s₁ e s'
end L2
/- THE LAST THEOREM (shape; LID, My.* are yours):
   My.Adr: a structure of the addresses that your layer names (classes, functions); My.Txt K t: a structure (Prop) of the equations over K;
   My.txt_mk : {K} {implicit addresses ..} (e1 : Va K UL "law" = TK (TK (.ref f))) (e2 : K.lookup f = TK ⟨oc, od, .func (U2 "law" "law" params body scope dV kV doc pm an cdv ct), sl⟩) (e3 : XF K cdv "law" = true) .. : ∃ t, My.Txt K t
set_option maxRecDepth 100000 in
(the tactic k_is has no namespace:write k_is) -/
namespace L2
open PySem PySem.Spec PyProof.Rows
noncomputable def bD(s:Xe):=match s with
 | .FunctionDef _ a _ _ _ _ _ _ _ _=>a
 | _=>{ posonlyargs:=[],args:=[],vararg:=TL,kwonlyargs:=[],kw_defaults:=[],kwarg:=TL,defaults:=[]}
noncomputable def aG(s:Xe):=match s with
 | .FunctionDef _ _ b _ _ _ _ _ _ _=>b
 | _=>[]
noncomputable def aj(s:Xe):=match s with
 | .FunctionDef _ _ _ _ _ _ sc _ _ _=>sc
 | _=>{ kind:= .function,names:=[],isGenerator:=false,isCoroutine:=false}
abbrev mV:Hl:=λ_ _ _ _ _ _=>False
abbrev E0:XK:=λ_ _ _=>False
theorem uT:Passes mV X E0:=λ_ _ _ _ _ _ _ h=>h.elim
structure vI(K:TQ)(x qual:Str)(st:Xe)(f:Uj)(fd:WD):Prop where
 ex: ∃(oc:TY)(od:Option Uj)(kV doc pm:TY)(an:Option Uj)(cdv ct:TY)(osl:Array (Option TY)),
  fd=U2 x qual (bD st) (aG st) (aj st) .none kV doc pm an cdv ct/\K.lookup f=TK ⟨oc,od,.func fd,osl⟩/\XF K cdv qual=true
 kp:Vt K (.ref f)=true
section
variable{P:UP}{w:U6}{K:TQ}{mg:Str->Option TY}{base:Vx}
theorem vI.ok{st}(F:vI K x qual st f fd)(S:cE N ps (aj st))(len: ∀ vs H Q E,sp vs H Q E->vs.length=ps.length)
  (hbody: ∀ cdv A outer s H vs Q E,ck k (A.deeper (X5 qual (aj st) s.heap.objs.size f cdv))->sp vs H Q E ->
   ∃ t,xj (gj mV P w K mg base N qual (aj st) f cdv A outer s H E).lT (aG st) t/\t { nx:=λ_ H'=>Q .non H',rt:=Q} (start N vs) H):gi P w K mg base mV (k+1) f fd ps sp:=by
 obtain⟨oc,od,kV,doc,pm,an,cdv,ct,osl,rfl,lk,hcd⟩:=F.ex;refine Oq lk hcd S len λA outer s H vs Q E hr hsp=>?_;obtain⟨t,h,q⟩:=hbody cdv A outer s H vs Q E hr hsp;exact⟨t,h.lT,q⟩
theorem vI.binds{st}(F:vI K x qual st f fd)
  (h: ∀ kV doc pm an cdv ct us,us.length=ps.length->Wc (U2 x qual (bD st) (aG st) (aj st) .none kV doc pm an cdv ct) ⟨us,[]⟩=pure (ps.zip us)):Binds K fd ps []:=by
 obtain⟨oc,od,kV,doc,pm,an,cdv,ct,osl,rfl,lk,hcd⟩:=F.ex;exact .all (h kV doc pm an cdv ct)
theorem CB{st kV}(l:K.lookup f=TK ⟨oc,od,.func (U2 x qual (bD st) (aG st) (aj st) .none kV doc pm an cdv ct),osl⟩)
  (c:XF K cdv qual=true) (k:Vt K (.ref f)=true):vI K x qual st f (U2 x qual (bD st) (aG st) (aj st) .none kV doc pm an cdv ct):=⟨⟨oc,od,kV,doc,pm,an,cdv,ct,osl,rfl,l,c⟩,k⟩
end
theorem Qn(hr:ck k A):A.units+1 < X3:=Nat.lt_of_le_of_lt (Nat.add_le_add_left (by decide) _) hr.units
section
variable{X:Cx}
theorem pv(i:Nat){x:Str}{pos:Pos}(hN:X.N[i]?=TK x:=by rfl)(hv:Il X.env.scope x:=by first | exact Zw rfl | exact X7 (Zw rfl) | exact X7 (X7 rfl))(hd:(x == ("__debug__" :Str))=false:=by decide)
  (hcd:(x == ("__classdict__" :Str))=false:=by decide):PE X (.Name x pos) (IB i):=By hN hv hd hcd
end
def jH(H H':Hp):= ∀ b o,H b=TK o->H' b=TK o
theorem jH.trans(a:jH H H1)(b:jH H1 H2):jH H H2:=λc o h=>b c o (a c o h)
theorem jH.free(e:jH H H')(h:H' l=TL):H l=TL:=by
 cases q:H l with
 | none=>rfl
 | some o =>
  rw[e l o q] at h
  cases h
theorem jH.seq{K:TQ}{H H':Hp}{a:Uj}{xs:List V}(e:jH H H')(h:fA K H a xs):fA K H' a xs:=by
 rcases h with(h | ⟨o,h⟩) | h
 . exact .inl (.inl (e _ _ h))
 . exact .inl (.inr ⟨o,e _ _ h⟩)
 . exact .inr h
open PySem PySem.W PyProof.Rows
section
variable{κ :Type}[DecidableEq κ]
noncomputable def fk(kvs:List (κ × V)) k:=(kvs.find? λkv=>decide (kv.1=k)).map (·.2)
noncomputable def putK kvs (k: κ) (v:V) :=
 if (kvs.any λkv=>decide (kv.1=k))=true then kvs.map (λkv=>if kv.1=k then(kv.1,v) else kv) else kvs++[(k,v)]
theorem nM{k: κ}(e:p.1=k):fk (p::r) k=TK p.2:=by simp[fk,e]
theorem oy{k: κ}(e: ¬ p.1=k):fk (p::r) k=fk r k:=by simp[fk,e]
theorem ud(k: κ): ∀ kvs ,(kvs.any λkv=>decide (kv.1=k))=(fk kvs k).isSome
 | []=>rfl
 | p::r=>by
  rw[Wa];by_cases e:p.1=k
  . simp only[nM e,decide_eq_true e,aat,Wy]
  . rw[oy e,decide_eq_false e];exact ud k r
theorem ie kvs (k: κ) v:(putK kvs k v).length<=kvs.length+1:=by
 unfold putK;split
 . simp_all
 . simp_all
theorem gL.gu(r:gL o u):o.isSome=u.isSome:=by
 cases o with
 | none=>cases u with
  | none=>rfl
  | some _=>exact(show False from r).elim
 | some _=>cases u with
  | none=>exact(show False from r).elim
  | some _=>rfl
theorem gL.getD(r:gL o u)(rd:RelV d d'):RelV (o.getD d) (u.getD d'):=by
 cases o with
 | none=>cases u with
  | none=>exact rd
  | some _=>exact(show False from r).elim
 | some _=>cases u with
  | none=>exact(show False from r).elim
  | some _=>exact r
theorem KV.val(r:KV kvs vs)(k: κ):gL (fk kvs k) (YY vs k):=by
 induction r with
 | nil=>exact V4
 | @cons p q ps qs h t ih =>
  obtain⟨h1,h2⟩:=h
  by_cases e:p.1=k
  . have e':=h1.symm.trans e;have b:YY (q::qs) k=TK q.2:=by simp[YY,e']
    rw[nM e,b];exact h2
  . have e': ¬ q.1=k:=λz=>e (h1.trans z);have b:YY (q::qs) k=YY qs k:=by simp[YY,e']
    rw[oy e,b];exact ih
theorem KV.any(r:KV kvs vs)(k: κ):(kvs.any λkv=>decide (kv.1=k))=vs.any λkv=>decide (kv.1=k):=by
 induction r with
 | nil=>rfl
 | cons h t ih=>simp_all
theorem KV.KP(r:KV kvs vs)(k: κ)(ry:RelV y u) :
  KV (kvs.map λkv=>if kv.1=k then(kv.1,y) else kv) (vs.map λkv=>if kv.1=k then(kv.1,u) else kv):=by
 induction r with
 | nil=>exact .nil
 | @cons p q ps qs h t ih =>
  rw[T9,T9]
  refine .cons ?_ ih
  obtain⟨h1,h2⟩:=h
  by_cases e:p.1=k
  . rw[if_pos e,if_pos (h1.symm.trans e)];exact⟨h1,ry⟩
  . rw[if_neg e,if_neg (λz=>e (h1.trans z))];exact⟨h1,h2⟩
theorem KV.put(r:KV kvs vs)(k: κ)(ry:RelV y u):KV (putK kvs k y) (stored vs k u):=by
 unfold putK stored;rw[r.any k];by_cases e:(vs.any λkv=>decide (kv.1=k))=true
 . rw[if_pos e,if_pos e];exact r.KP k ry
 . rw[if_neg e,if_neg e];exact abh r ⟨rfl,ry⟩
theorem KV.keys{kvs:List (κ × V)}{vs:List (κ × TY)}(r:KV kvs vs):kvs.map (·.1)=vs.map (·.1):=by
 induction r with
 | nil=>rfl
 | cons h t ih=>simp_all
theorem KV.length{kvs:List (κ × V)}{vs:List (κ × TY)}(r:KV kvs vs):kvs.length=vs.length:=Xw r
end
theorem lI(r:RelV (kV k) u):(bz P w).is k u=true:=by
 cases k with
 | inl i=>obtain⟨t,e⟩:=(show ∃ t,u=XU i t from r);subst e;exact uO P w i t
 | inr x=>obtain⟨t,e⟩:=(show ∃ t,u=XW x t from r);subst e;exact sX P w x t
theorem qm: ∀{ks us},Vals (ks.map kV) us->ItemsAre (bz P w) ks us
 | [],_,r=>by cases r;exact .nil
 | k::ks,_,r=>by
  cases r with
  | cons h t=>exact .cons (lI h) (qm t)
abbrev KT(H:Hp):List (List Key × V)->List (List Key × Uj × TY)->Prop:=V7 λp q=>p.1=q.1/\H q.2.1=TK (.tup (p.1.map kV))/\RelV p.2 q.2.2
theorem KT.val(r:KT H kvs xs) k:gL (fk kvs k) ((aaM xs k).map (·.2)):=by
 induction r with
 | nil=>exact V4
 | @cons p q ps qs h t ih =>
  obtain⟨h1,_,h2⟩:=h
  by_cases e:p.1=k
  . have e':=h1.symm.trans e;have b:aaM (q::qs) k=TK q.2:=by simp[aaM,e']
    rw[nM e,b];exact h2
  . have e': ¬ q.1=k:=λz=>e (h1.trans z);have b:aaM (q::qs) k=aaM qs k:=by simp[aaM,e']
    rw[oy e,b];exact ih
theorem KT.KP(r:KT H kvs xs) k (ry:RelV y u) :
  KT H (kvs.map λkv=>if kv.1=k then(kv.1,y) else kv) (xs.map (putAt k u)):=by
 induction r with
 | nil=>exact .nil
 | @cons p q ps qs h t ih =>
  rw[T9]
  refine .cons ?_ ih
  obtain⟨h1,h2,h3⟩:=h
  unfold putAt
  by_cases e:p.1=k
  . rw[if_pos e,if_pos (h1.symm.trans e)];exact⟨h1,h2,ry⟩
  . rw[if_neg e,if_neg (λz=>e (h1.trans z))];exact⟨h1,h2,h3⟩
theorem KT.put(r:KT H kvs xs) k (hb:H b=TK (.tup (k.map kV))) (ry:RelV y u) :
  KT H (putK kvs k y) (storedH xs k b u):=by
 have e:(kvs.any λkv=>decide (kv.1=k))=(aaM xs k).isSome:=by
  rw[ud,(r.val k).gu,aau]
 unfold putK storedH;rw[e];by_cases q:(aaM xs k).isSome=true
 . rw[if_pos q,if_pos q];exact r.KP k ry
 . rw[if_neg q,if_neg q];exact abh r ⟨rfl,hb,ry⟩
theorem KT.keeps(r:KT H kvs xs)(ht: ∀ b ys,H b=TK (.tup ys)->H' b=TK (.tup ys)):KT H' kvs xs :=
 Paired.Dq r λ_ _ z=>⟨z.1,ht _ _ z.2.1,z.2.2⟩
section
variable{P:UP}{w:U6}{H:Hp}{h:Vx}{a:Uj}
theorem G6(ok:jE P w H h)(e:Rd H a u):bo P w H h a u:=e.ok ok
theorem ua(ok:jE P w H h)(e:Rd H a (.dK kvs)):kvs.length<=Ub/\(a == VX)=false/\ ∃ vs,KV kvs vs/\h.DictOf (bz P w) a vs :=
 show bo P w H h a (.dK kvs) from G6 ok e
theorem tO(ok:jE P w H h)(e:H a=TK (.dK kvs)):kvs.length<=Ub/\(a == VX)=false/\ ∃ vs,KV kvs vs/\h.DictOf (bz P w) a vs:=ua ok (.inl e)
theorem sD(ok:jE P w H h)(e:H a=TK (.tup (ks.map kV))):(ZL (bz P w)).is h ks a:=by
 obtain⟨_,ak,r,o,h1,h2,n,h3,_⟩:=(show bo P w H h a (.tup (ks.map kV)) from ok a _ e)
 exact⟨o,ak.toArray,n,h1,h2,h3,by simpa using qm r⟩
theorem xD(ok:jE P w H h)(e:Rd H a (.dT kvs)):kvs.length<=Ub/\(a == VX)=false /\
  ∃ xs,KT H kvs xs/\h.DictOfH (ZL (bz P w)) a xs:=by
 obtain⟨z,y,xs,r,o,es,ep,h1,h2,h3,h4,h5⟩:=(show bo P w H h a (.dT kvs) from G6 ok e)
 refine⟨z,y,xs,r,o,es,ep,h1,h2,h3,h4,λx hx=>?_,h5⟩;have all: ∀{l m},KT H l m-> ∀ x∈m,(ZL (bz P w)).is h x.1 x.2.1:=by
  intro l m q
  induction q with
  | nil=>simp_all
  | @cons p q ps qs hq t ih =>
   intro x hx
   rcases Uh.mp hx with e | hx
   . subst e;exact sD ok (by rw[<- hq.1];exact hq.2.1)
   . exact ih x hx
 exact all r x hx
theorem Pb(ok:jE P w H h)(e:H a=TK (.dT kvs)):kvs.length<=Ub/\(a == VX)=false /\
  ∃ xs,KT H kvs xs/\h.DictOfH (ZL (bz P w)) a xs:=xD ok (.inl e)
end
def mH H (a:Uj) y (r:Option V) :=
 (∃ kvs k,Rd H a (.dK kvs)/\y=kV k/\r=fk kvs k)\/ ∃ kvs k b,Rd H a (.dT kvs)/\y= .ref b/\H b=TK (.tup (k.map kV))/\r=fk kvs k
def wa H (a:Uj) y v H' :=
 (∃ kvs k,H a=TK (.dK kvs)/\y=kV k/\kvs.length < Ub/\H'=upd H a (.dK (putK kvs k v))) \/
 ∃ kvs k b,H a=TK (.dT kvs)/\y= .ref b/\H b=TK (.tup (k.map kV))/\kvs.length < Ub/\H'=upd H a (.dT (putK kvs k v))
theorem mH.k{H:Hp}{a:Uj}{kvs:List (Key × V)}{k:Key}(e:H a=TK (.dK kvs)):mH H a (kV k) (fk kvs k):= .inl ⟨kvs,k,.inl e,rfl,rfl⟩
theorem mH.t{H:Hp}{a b:Uj}{kvs:List (List Key × V)}{k:List Key}(e:H a=TK (.dT kvs))(eb:H b=TK (.tup (k.map kV))):mH H a (.ref b) (fk kvs k):= .inr ⟨kvs,k,b,.inl e,rfl,eb,rfl⟩
theorem wa.k{H:Hp}{a:Uj}{kvs:List (Key × V)}{k:Key}{v:V}(e:H a=TK (.dK kvs))(hl:kvs.length < Ub):wa H a (kV k) v (upd H a (.dK (putK kvs k v))):= .inl ⟨kvs,k,e,rfl,hl,rfl⟩
theorem wa.t{H:Hp}{a b:Uj}{kvs:List (List Key × V)}{k:List Key}{v:V}(e:H a=TK (.dT kvs))(eb:H b=TK (.tup (k.map kV)))(hl:kvs.length < Ub) :
  wa H a (.ref b) v (upd H a (.dT (putK kvs k v))):= .inr ⟨kvs,k,b,e,rfl,eb,hl,rfl⟩
section
variable{X:Cx}{pins:List (Uj × Obj)}{σ :St}{H:Hp}{s:Ua}{a:Uj}{y v:V}{u r:TY}{o:Option V}{A:Vk}{E:TY->Ua->Prop}
theorem Inv.big(I:Inv X pins σ H s):VX < s.heap.objs.size:=by
 have h:=(I.mod.glob.keeps I.bk).lt;exact aav (by decide) h
theorem yz(hu:A.units+1 < X3)(I:Inv X pins σ H s)(g:mH H a y (TK v))(ry:RelV y u)(h: ∀ w' s',Inv X pins σ H s'->RelV v w'->Q w' s') :
  Ur (Uu X.prog X.w) A (XQ (.ref a) u) Q E s:=by
 rcases g with⟨kvs,k,e,ey,l⟩ | ⟨kvs,k,b,e,ey,eb,l⟩
 . subst ey;obtain⟨z,hd,vs,rel,dd⟩:=ua I.bx e;obtain⟨w',hw,rw'⟩:=gL.some_of (v:=v) (o:=YY vs k) (by rw[l];exact rel.val k);exact wpAny_getItem_of (lI ry) dd.mapOf hw (h w' _ (I.tok _) rw')
 . subst ey;cases(show u=Uv b from ry);obtain⟨z,hd,xs,rel,dd⟩:=xD I.bx e;obtain⟨w',hw,rw'⟩:=gL.some_of (v:=v) (o:=(aaM xs k).map (·.2)) (by rw[l];exact rel.val k)
   obtain⟨p,hp,hp2⟩:=Option.map_eq_some_iff.mp hw;refine wpAny_getItem_heap (X8 hu) (sD I.bx eb) dd hp ?_;rw[hp2];exact h w' _ (I.tok _) rw'
theorem Sa{Q:TY->Ua->Prop}(hu:A.units+1 < X3)(I:Inv X pins σ H s)(g:mH H a y o)(ry:RelV y u)(h: ∀ s',Inv X pins σ H s'->Q (.bool o.isSome) s') :
  Ur (Uu X.prog X.w) A (UJ .In u (.ref a)) Q E s:=by
 rcases g with⟨kvs,k,e,ey,l⟩ | ⟨kvs,k,b,e,ey,eb,l⟩
 . subst ey;obtain⟨z,hd,vs,rel,dd⟩:=ua I.bx e;refine wpAny_in_of (lI ry) hd dd.mapOf ?_;rw[<- (rel.val k).gu,<- l];exact h _ (I.tok _)
 . subst ey;cases(show u=Uv b from ry);obtain⟨z,hd,xs,rel,dd⟩:=xD I.bx e;refine wpAny_in_heap (X8 hu) (sD I.bx eb) hd dd ?_;have q:=(rel.val k).gu;rw[aau] at q;rw[<- q,<- l];exact h _ (I.tok _)
theorem ni(I:Inv X pins σ H s)(mu:Qi (H a))(hs:Xg a s.heap h')(he: ∃ q,h'.get? a=TK q)(new:bo X.prog X.w (upd H a ob) h' a ob) :
  Inv X pins σ (upd H a ob) { s with heap:=h',toks:=t'} :=
 I.write (x:=a) (e:=a) mu (.inl rfl) (λb q hb z=>(hs.2 b hb).trans z) he new
theorem vD(z:kvs.length<=Ub)(hd:(a == VX)=false)(rel:KV kvs vs)(dd:h'.DictOf (bz P w) a vs) :
  bo P w H' h' a (.dK kvs):=⟨z,hd,vs,rel,dd⟩
theorem xU{H':Hp}{Q:Unit->Ua->Prop}(hu:A.units+1 < X3)(I:Inv X pins σ H s)(g:wa H a y v H')(ry:RelV y u)(rv:RelV v r)(h: ∀ s',Inv X pins σ H' s'->Q () s') :
  Ur (Uu X.prog X.w) A (setItem (.ref a) u r) Q E s:=by
 rcases g with⟨kvs,k,e,ey,l,eH⟩ | ⟨kvs,k,b,e,ey,eb,l,eH⟩
 . subst ey eH;obtain⟨z,hd,vs,rel,dd⟩:=tO I.bx e;have hz:vs.length<=Ub:=by rw[<- rel.length];exact z
   have hl:(putK kvs k v).length<=Ub:=by have:=ie kvs k v;omega
   refine wpAny_setItem_pairs (hsz:=hz) (lI ry) dd λh' dd' hs=>h _ ?_;have he: ∃ q,h'.get? a=TK q:=by obtain⟨q,_,_,hq,_⟩:=dd';exact⟨q,hq⟩
   exact ni I (by rw[e];exact V4) hs he (vD hl hd (rel.put k rv) dd')
 . subst ey eH;cases(show u=Uv b from ry);obtain⟨z,hd,xs,rel,dd⟩:=Pb I.bx e;have hz:xs.length<=Ub:=by rw[<- Xw rel];exact z
   have hl:(putK kvs k v).length<=Ub:=by have:=ie kvs k v;omega
   refine wpAny_setItem_heap (hsz:=hz) (X8 hu) (sD I.bx eb) dd λh' dd' hs=>h _ ?_;obtain⟨q,es,ep,hq,h2,h3,h4,_,h5⟩:=dd';refine ni I (by rw[e];exact V4) hs ⟨q,hq⟩ ⟨hl,hd,_,(rel.put k eb rv).keeps λc ys ec=>?_,q,es,ep,hq,h2,h3,h4,h5⟩;rw[av (qy ec e (λz=>by cases z))];exact ec
end
section
variable{X:Cx}{pins:List (Uj × Obj)}{σ :St}{H:Hp}{s:Ua}{a:Uj}{kvs:List (Key × V)}{k:Key}{u:TY}{A:Vk}{E:TY->Ua->Prop}
theorem OO{Q:TY->Ua->Prop}(I:Inv X pins σ H s)(e:Rd H a (.dK kvs))(h: ∀ t s',Inv X pins σ H s'->Q (.int kvs.length t) s'):Ur (Uu X.prog X.w) A (call (.builtin "len") [.ref a]) Q E s:=by
 obtain⟨z,hd,vs,rel,dd⟩:=ua I.bx e;refine call_len_dict hd dd (by rw[<- rel.length];rw[aaK] at z;omega) ?_;rw[<- rel.length];exact h _ _ (I.tok _)
end
def GI i:= ∀ ov iv,Yk i false ov iv=operate [ov,iv] (XQ ov iv)
theorem Gp{id} 
    (hl : aad (.type T) "__getitem__" = pure (TK (.builtin id))) (hs : GI slice)
    (h : Ur (Uu prog w) A (Vl value env) (λo s₁ => Ur (Uu prog w) A (Vl slice env) (λi s₂ => s₂.TypeIs o T /\ Ur (Uu prog w) A (XQ o i) Q E s₂) E s₁) E s) :
    Ur (Uu prog w) A (Vl (.Subscript value slice pos) env) Q E s := by
  refine Subscript_ (UZ h (λo s₁ h₁ => UZ h₁ (λi s₂ h₂ => ?_) λ_ _ x => x) λ_ _ x => x);obtain ⟨hT, h₂⟩ := h₂;refine TM ?_;refine TM (XG hT hl ?_);have fin : Ur (Uu prog w) A (Yk slice false o i) (λr s₃ => Ur (Uu prog w) A (letTemporaryGo value o r >>= λ_ => pure r) Q E s₃) E s₂ := by
    rw [hs o i];exact wpAny_operating (UZ h₂ (λr s₃ h₃ => TM (Zx (Ud h₃))) λ_ _ x => x)
  first
    | exact Ud (TM fin)
    | exact TM (Ud (TM fin))
    | exact TM fin
theorem uz{σ :St}(I:Inv X pins σ H s)(g:mH H a y o):s.TypeIs (.ref a) "dict" :=by
 rcases g with⟨kvs,k,e,_,_⟩ | ⟨kvs,k,b,e,_,_,_⟩
 . obtain⟨_,_,vs,_,dd⟩:=ua I.bx e;exact dd.typeIs
 . obtain⟨_,_,xs,_,dd⟩:=xD I.bx e;exact dd.typeIs
theorem uL(h:Vx)(hb:VX < h.objs.size):bo P w H (h.push { cls:= .type "dict",data:= .dict #[]}) h.objs.size (.dK []) :=
 ⟨Vp _,beq_eq_false_iff_ne.mpr (VI (UN hb)),[],.nil,Heap.DictOf.new h⟩
def B0:TE:=λ_ H Q=> ∀ p,H p=TL->Q (.ref p) (upd H p (.dK []))
section
variable{X:Cx}{pos:Pos}
theorem Cc:PE X (.Dict [] [] pos) B0:=λpins s σ H Q I h =>
 wpAny_Dict_empty ⟨.ref s.heap.objs.size,_,I.laid (a:=s.heap.objs.size) (o:= .dK []) (t':=s.toks) (λ_ _ q=>T1 _ q) (T6 _) (uL s.heap I.big),rfl,h _ (I.bx.fresh (T6 _))⟩
end
def kW:List (TE × TE)->St->Hp->(List (V × V)->Hp->Prop)->Prop
 | [],_,H,Q=>Q [] H
 | (tk,tv)::r, σ,H,Q=>tk σ H λx H1=>tv σ H1 λy H2=>kW r σ H2 λps H3=>Q ((x,y)::ps) H3
abbrev VV:List (V × V)->List (TY × TY)->Prop:=V7 λp q=>RelV p.1 q.1∧RelV p.2 q.2
def NL X pos (keys:List (Option UR)) (values:List UR) (trs:List (TE × TE)) :=
 ∀ pins s(σ :St) H Q,Inv X pins σ H s->kW trs σ H Q ->
  Ur (Uu X.prog X.w) X.A (evalPairs (pairTrees keys values X.env pos)) (λvs s'=> ∃ ps H',Inv X pins σ H' s'/\VV ps vs/\Q ps H') X.xe s
theorem E9:NL X pos [] [] []:=λpins s σ H Q I h=>pairTrees_nil_walk ⟨[],H,I,.nil,h⟩
theorem AE(hk:PE X k tk)(hv:PE X v tv)(hr:NL X pos ks vs trs) :
  NL X pos (TK k::ks) (v::vs) ((tk,tv)::trs):=λpins s σ H Q I h =>
 pairTrees_cons_walk (jg (hk pins s σ H _ I h) λu s1 x H1 I1 rx q1=>jg (hv pins s1 σ H1 _ I1 q1) λw2 s2 y H2 I2 ry q2 =>
  eF (hr pins s2 σ H2 _ I2 q2) λws s3=>by rintro ⟨ps,H3,I3,rel,q3⟩;exact⟨(x,y)::ps,H3,I3,.cons ⟨rx,ry⟩ rel,q3⟩)
def fV(kvs more:List (Key × V)):=more.foldl (λacc kv=>putK acc kv.1 kv.2) kvs
theorem KV.merge: ∀{more rs kvs vs},KV more rs->KV kvs vs->KV (fV kvs more) (merged vs rs):=by
 intro more rs kvs vs r
 induction r generalizing kvs vs with
 | nil=>intro q;exact q
 | @cons p q ps qs h t ih =>
  intro r0
  have e:KV (putK kvs p.1 p.2) (stored vs q.1 q.2):=by
   have:=r0.put p.1 h.2;rw[<- h.1];exact this
  exact ih e
theorem fW: ∀ more kvs,(fV kvs more).length<=kvs.length+more.length
 | [],kvs=>by show kvs.length<=kvs.length+0;omega
 | p::r,kvs=>by
  have h1:=fW r (putK kvs p.1 p.2);have h2:=ie kvs p.1 p.2;show(fV (putK kvs p.1 p.2) r).length<=_;rw[Uc];omega
theorem ow: ∀{kvs ws},VV (kvs.map λkv=>(kV kv.1,kv.2)) ws-> ∃ rs,Carries (bz P w) ws rs/\KV kvs rs
 | [],_,r=>by cases r;exact⟨[],V4,.nil⟩
 | p::kvs,_,r=>by
  cases r with
  | @cons a b as bs h t =>
   obtain⟨rs,c,q⟩:=ow (P:=P) (w:=w) t
   obtain⟨b1,b2⟩:=b
   exact⟨(p.1,b2)::rs,⟨lI h.1,rfl,c⟩,.cons ⟨rfl,h.2⟩ q⟩
def Hx(trs:List (TE × TE)):TE:=fun σ H Q=> ∀ p,H p=TL->kW trs σ (upd H p (.dK [])) λps H2=>H2 p=TK (.dK [])/\ ∃ kvs ,ps=kvs.map (λkv=>(kV kv.1,kv.2))/\kvs.length<=15/\Q (.ref p) (upd H2 p (.dK (fV [] kvs)))
theorem Gk(h:NL X pos keys values trs)(hall:keys.all (·.isSome)=true)(hl:keys.length=values.length)(h0:keys≠[])
  (h15:keys.length<=15):PE X (.Dict keys values pos) (Hx trs):=by
 intro pins s σ H Q I q;have hn:=I.bx.fresh (T6 s.heap.objs.size);have I1:=I.laid (a:=s.heap.objs.size) (o:= .dK []) (h':=s.heap.push { cls:= .type "dict",data:= .dict #[]}) (t':=s.toks) (λ_ _ q=>T1 _ q) (T6 _) (uL s.heap I.big);refine wpAny_Dict_walk (knd:=bz X.prog X.w) hall hl h0 h15 (eF (h pins _ σ _ _ I1 (q _ hn)) λws s2 z9=>?_);obtain⟨ps,H2,I2,rel,e,kvs,ep,lk,q2⟩:=z9;subst ep;obtain⟨rs,c,rk⟩:=ow (P:=X.prog) (w:=X.w) rel;obtain⟨z,hd,vs0,r0,dd⟩:=tO I2.bx e;cases r0;refine⟨rs,c,dd,λh' dd' hs=>⟨.ref s.heap.objs.size,_,?_,rfl,q2⟩⟩;have hz:(fV [] kvs).length<=Ub:=by
  have h1:=fW kvs [];rw[Vc] at h1;rw[aaK];omega
 have he: ∃ q,h'.get? s.heap.objs.size=TK q:=by obtain⟨q,_,_,hq,_⟩:=dd';exact⟨q,hq⟩
 exact ni I2 (by rw[e];exact V4) hs he (vD hz hd (rk.merge .nil) dd')
structure M1(X:Cx)(o:UR)(m:Str)(apos:Pos)(e:UR)(cpos:Pos):Prop where
 base:VQ o m X.env (Vl o X.env)=Vl o X.env
 iT:((Wq cpos (UH [e] X.env)).all (λx=> !x.1)&&(YC cpos (Xb [] X.env)).all (λx=>x.1.isSome)
  && decide (([e]:List UR).length+([]:List ZM).length+(if ([]:List ZM).isEmpty then 0 else 1) < 30))=true
 line:(apos.endLine == cpos.line)=true
 trees:Wq cpos (UH [e] X.env)=[(false,Vl e X.env)]
structure M2(X:Cx)(o:UR)(m:Str)(apos:Pos)(e f:UR)(cpos:Pos):Prop where
 base:VQ o m X.env (Vl o X.env)=Vl o X.env
 iT:((Wq cpos (UH [e,f] X.env)).all (λx=> !x.1)&&(YC cpos (Xb [] X.env)).all (λx=>x.1.isSome)
  && decide (([e,f]:List UR).length+([]:List ZM).length+(if ([]:List ZM).isEmpty then 0 else 1) < 30))=true
 line:(apos.endLine == cpos.line)=true
 trees:Wq cpos (UH [e,f] X.env)=[(false,Vl e X.env),(false,Vl f X.env)]
section
variable{X:Cx}
theorem y7:bj X (.builtin "len") (λxs H Q=> ∃ a kvs,xs=[V.ref a]/\H a=TK (.dK kvs)/\Q (.int kvs.length) H):=by
 intro pins s σ H xs us Q I r h;obtain⟨a,kvs,rfl,ha,q⟩:=h;obtain⟨u,rfl,ru⟩:=vals1 r;cases ru;exact OO I (.inl ha) λt s' I'=>⟨.int kvs.length,H,I',⟨t,rfl⟩,q⟩
end
noncomputable def mask(n:Str):Str:=⟨n.cps.push 0⟩
def hE(sc fn:List (Str × Xy))(N vars:List Str) :=
 sc.all (λp=>(p.2 != .cell||sc.lookup p.1 == TK .cell)&&(p.2 != .free||(fn.lookup p.1 == TK .cell||fn.lookup p.1 == TK .free))&&(p.2 != .local||sc.lookup p.1 == TK .local)) &&
 N.all (λn=>vars.contains n||(sc.lookup n !=TK .local&&sc.lookup n !=TK .cell))&&vars.all (λv=>sc.lookup (mask v) == TL)
def sL(N vars:List Str):=N.map (λn=>if vars.contains n then mask n else n)++vars
def eL(X:Cx)(vars:List Str)(scope:XY)(cl:List (Str × Uj))(C:Uj)(s₀ :Ua)(H₀ :Hp)(ex:List Uj)(pn:List (Uj × Obj)):Cx :=
 { X with N:=sL X.N vars,env:=V6 scope cl C X.env,s₀ :=s₀,H₀ :=H₀,outer:=X.stack,ex:=ex,fn:=λx=>scope.names.lookup x == TK .cell,pn:=pn}
theorem jf(f:Str->Xy->Xy) x: ∀ names:List (Str × Xy),(names.map λp=>(p.1,f p.1 p.2)).lookup x=(names.lookup x).map (f x)
 | []=>rfl
 | p::r=>by
  have ih:=jf f x r;rw[T9,Vz,Vz,ih];cases q:x == p.1 with
  | true=>simp_all
  | false=>rfl
theorem iI{env:Env}{names:List (Str × Xy)} :
  (names.map λ(n,k)=>if (k == Wl&&env.scope.kind == .function&&env.kindOf n == TK .cell) then(n,Wm) else(n,k)).lookup x =
   (names.lookup x).map λk=>if (k == Wl&&env.scope.kind == .function&&env.kindOf x == TK .cell) then Wm else k:=by
 rw[<- jf (λn k=>if (k == Wl&&env.scope.kind == .function&&env.kindOf n == TK .cell) then Wm else k) x names];congr 2
 funext p
 show(if _ then _ else _)=_;split<;>rename_i z<;>simp[z]
theorem lookup_mem{β :Type}{c}: ∀{l:List (Str × β)},l.lookup x=TK c->(x,c)∈l
 | [],h=>by simp at h
 | p::r,h=>by
  rw[Vz] at h;cases q:x == p.1 with
  | true =>
   rw[q] at h
   obtain rfl:x=p.1:=by simpa using q
   obtain rfl:p.2=c:=by simpa using h
   exact Ug
  | false=>rw[q] at h;exact T7 _ (lookup_mem h)
theorem eW{β :Type}{c}: ∀{l:List (Str × β)},(x,c)∈l-> ∃ d,l.lookup x=TK d
 | [],h=>by cases h
 | (n,k)::r,h=>by
  cases hx:x == n with
  | true=>exact⟨k,by simp only[Vz,hx]⟩
  | false =>
   have h':(x,c)∈r:=by
    simp_all
   obtain⟨d,q⟩:=eW h'
   exact⟨d,by simp only[Vz,hx];exact q⟩
theorem jl: ∀(names:List (Str × Xy)) acc,(∀ p∈names,p.2= .free-> ∃ c,env.cells.lookup p.1=TK c) ->
  ∃ cl,(forIn names acc λ(x:Str × Xy) (r)=>(match x with | (name,kind)=>if (kind == Wl)=true then do let a <- cellOf env name;pure (WE ((name,a)::r)) else pure (WE r)))=pure cl /\
   (∀ p∈cl,p∈acc\/env.cells.lookup p.1=TK p.2)/\(∀ p∈acc,p∈cl)/\ ∀ p∈names,p.2= .free-> ∃ c,(p.1,c)∈cl
 | [],acc,_=>⟨acc,rfl,λp h=> .inl h,λp h=>h,λp h=>by cases h⟩
 | (n,k)::r,acc,h=>by
  by_cases hk:(k == Wl)=true
  . obtain⟨c,hc⟩:=h (n,k) Ug (by simpa using hk);obtain⟨cl,e,h1,h2,h3⟩:=jl r ((n,c)::acc) λp hp=>h p (T7 _ hp);refine⟨cl,?_,λp hp=>?_,λp hp=>h2 p (T7 _ hp),λp hp hf=>?_⟩
    . rw[VM];have z:cellOf env n=pure c:=by unfold cellOf;have hc':=hc;rw[hc']
      simp only[hk,z];exact e
    . rcases h1 p hp with q | q
      . rcases Uh.mp q with q | q
        . exact .inr (by rw[q];exact hc)
        . exact .inl q
      . exact .inr q
    . rcases Uh.mp hp with q | q
      . exact⟨c,by rw[q];exact h2 _ Ug⟩
      . exact h3 p q hf
  . obtain⟨cl,e,h1,h2,h3⟩:=jl r acc λp hp=>h p (T7 _ hp);refine⟨cl,?_,h1,h2,λp hp hf=>?_⟩
    . rw[VM];simp only[if_neg hk];exact e
    . rcases Uh.mp hp with q | q
      . rw[q] at hf;exact absurd (by simpa using hf) hk
      . exact h3 p q hf
theorem oN(h: ∀ p∈scope.names,p.2= .free-> ∃ c,env.cells.lookup p.1=TK c) :
  ∃ cl,closureFor scope env=pure cl/\(∀ x c,cl.lookup x=TK c->env.cells.lookup x=TK c)/\ ∀ x,scope.names.lookup x=TK .free-> ∃ c,cl.lookup x=TK c:=by
 obtain⟨cl,e,h1,_,h3⟩:=jl scope.names [] h;refine⟨cl,?_,λx c q=>?_,λx q=>?_⟩
 . show(forIn scope.names ([]) _ >>= λr=>pure r)=_
   erw [e]
   rfl
 . rcases h1 _ (lookup_mem q) with z | z
   . cases z
   . exact z
 . obtain⟨c,q'⟩:=h3 _ (lookup_mem q) rfl;exact eW q'
theorem vm: ∀ names(h:Vx) acc x c,(WI h.objs.size names acc).lookup x=TK c ->
  ((x,Wm) ∉ names/\acc.lookup x=TK c)\/((x,Wm)∈names/\h.objs.size<=c/\(YF h names).IsCell c TL)
 | [],_,_,_,_,e=> .inl ⟨λz=>(by cases z),e⟩
 | (name,kind)::r,h,acc,x,c,e=>by
  unfold WI at e;unfold YF;split at e
  . rename_i hk;have hk':kind= .cell:=by simpa using hk
    subst hk';have hz:(h.push { cls:= .type "cell",data:= .cell TL}).objs.size=h.objs.size+1:=Vu ..;rw[<- hz] at e;rcases vm r _ _ x c e with⟨n,q⟩ | ⟨m,le,q⟩
    . rw[Vz] at q;cases hx:x == name with
      | true =>
       rw[hx] at q
       cases q
       rw[show x=name by simpa using hx]
       exact .inr ⟨Ug,T6 _,_,Zf _ _ _ _ (Up _ rfl),rfl⟩
      | false =>
       simp_all
    . exact .inr ⟨T7 _ m,by rw[hz] at le;exact Nat.le_of_succ_le le,q⟩
  . rename_i hk;rw[if_neg hk];rcases vm r h acc x c e with⟨n,q⟩ | ⟨m,q⟩
    . refine .inl ⟨λz=>?_,q⟩;rcases Uh.mp z with w | w
      . simp_all
      . exact n w
    . exact .inr ⟨T7 _ m,q⟩
theorem uX{lo:Nat}: ∀ names(n:Nat)(acc:List (Str × Uj)),(∀ x y c,acc.lookup x=TK c->acc.lookup y=TK c->lo<=c->x=y)->(∀ x c,acc.lookup x=TK c->c < n) ->
  ∀ x y c,(WI n names acc).lookup x=TK c->(WI n names acc).lookup y=TK c->lo<=c->x=y
 | [],_,_,h,_=>h
 | (name,kind)::r,n,acc,h,hn=>by
  unfold WI;split
  . have at_: ∀ z d,((name,n)::acc).lookup z=TK d->(z=name/\d=n)\/acc.lookup z=TK d:=λz d e=>by
     rw[Vz] at e;cases hz:z == name with
     | true=>simp_all
     | false=>rw[hz] at e;exact .inr e
    refine uX r (n+1) _ (λx y c e1 e2 hl=>?_) λx c e=>?_
    . rcases at_ x c e1 with⟨a,b⟩ | a<;>rcases at_ y c e2 with⟨a',b'⟩ | a'
      . rw[a,a']
      . exact absurd (hn y c a') (by rw[b];exact U5 _)
      . exact absurd (hn x c a) (by rw[b'];exact U5 _)
      . exact h x y c a a' hl
    . rcases at_ x c e with⟨_,b⟩ | a
      . simp_all
      . exact aaw (hn x c a)
  . exact uX r n acc h hn
theorem pI{M:Model}{A:Vk}{E:TY->Ua->Prop}{s:Ua}{scope:XY}{globals:Uj}{cl:List (Str × Uj)}{qual:Str}{outer:Env}{Q:Env->Ua->Prop}
  (h:Q { scope:=scope,locals:=s.heap.objs.size,globals:=globals,cells:=WI (s.heap.objs.size+1) scope.names cl,qual:=qual,func:=TL,code:=outer.code,frame:=outer.frame,builtins:=outer.builtins}
   { s with heap:=YF (s.heap.push { cls:= .type "dict",data:= .dict #[]}) scope.names}):Ur M A (Zy scope globals cl [] qual TL .none (TK outer)) Q E s:=by
 simp only[Zy,Wy,if_true];refine TM (wpAny_alloc (TM (wpAny_layCells _ (λname kind cells=>by rfl) _ _ _ _ ?_)));rw[show({ s with heap:=s.heap.push { cls:= .type "dict",data:= .dict #[]}}:Ua).heap.objs.size=s.heap.objs.size+1 from Vu ..];exact TM (by exact Ud (Ud h))
noncomputable def Di(cs:List UR) v :=
 forIn cs true λc r=>if r=true then(aaA c v (Vl c v) >>= λok=>pure (WE ok)) else pure (WE r)
def vg M A v e acc (X:TY->Ua->Prop) (D:Ua->Prop):=λok u=>if ok=true then
  Ur M A (Vl e v) (λx u1=>Ur M A (call (.builtin "list.append") [acc,x]) (λ_ u2=>D u2) X u1) X u
 else D u
def Mb(M:Model)(A:Vk) v tg e (cs:List UR) (it acc:TY) (X:TY->Ua->Prop) (D:Ua->Prop) (i:TY) (u:Ua) :=
 Ur M A (Zc tg it i) (λ_ u1=>Ur M A (X0 tg v i) (λ_ u2=>Ur M A (Di cs v) (vg M A v e acc X D) X u2) X u1) X u
theorem nr{prog:UP}{w:U6}{A:Vk}{R:aaE->Ua->Prop}{s:Ua}{elt target iter:UR}{ifs:List UR}{scope:XY}{pos:Pos}{it acc:TY}{env:Env}(I:Nat->Ua->Prop)
  (turn: ∀ k u,I k u->Ur (Uu prog w) A (aaB it) (λr u1=>match r with
   | none=>R (.ok .next) u1
   | some i=>Mb (Uu prog w) A env target elt ifs it acc (notedBy (Uu prog w) A env λe s'=>R (.error e) s') (λu2=> ∃ m,m < k/\I m u2) i u1) (notedBy (Uu prog w) A env λe s'=>R (.error e) s') u)
  (n:Nat) (h:I n s):WN (Uu prog w) A (.compLoop (.ListComp elt [⟨target,iter,ifs,0⟩] scope pos) 0 it acc env) R s:=by
 refine codeAny_loop rfl I (λk u hu=>wpAny_noted (m:=compTurn (.ListComp elt [⟨target,iter,ifs,0⟩] scope pos) 0 it acc env) ?_) n h;rw[compTurn_list];refine TM (ZV (TM (UZ (turn k u hu) (λr u1 g=>?_) λ_ _ z=>z)))
 match r,g with
 | none,g=>exact Ud g
 | some i,g =>
  refine TM (UZ g (λ_ _ g=>TM (UZ g (λ_ _ g=>TM (UZ g (λok u4 g=>?_) λ_ _ z=>z)) λ_ _ z=>z)) λ_ _ z=>z)
  match ok,g with
  | false,g=>exact Ud (YG rfl g)
  | true,g=>exact TM (TM (UZ g (λ_ _ g=>TM (UZ g (λ_ _ g=>Ud (Ud (YG rfl g))) λ_ _ z=>z)) λ_ _ z=>z))
def PF X (ifs:List UR) (t:TT) :=
 ∀ pins s(σ :St) H Q,Inv X pins σ H s->t σ H Q ->
  Ur (Uu X.prog X.w) X.A (forIn ifs true λc r=>if r=true then do let ok <- aaA c X.env (Vl c X.env);pure (WE ok) else pure (WE r)) (TP X pins σ Q) X.xe s
noncomputable def Hz:TT:=λ_ H Q=>Q true H
theorem IL:PF X [] Hz:=λ_ _ σ H Q I h=>wpAny_tests_nil ⟨H,I,h⟩
def Rf(k:Nat)(wi:TI)(g:TG)(tt:TT)(te:TE):TE:=fun σ H Q=>wi σ H λJ H1=> ∃ W:Nat->Nat->List V->Hp->Prop,(∃ m,W 0 m [] H1)/\ ∀ i m ys H,W i m ys H ->
 (J.stop i H/\ ∀ p,H p=TL->Q (.ref p) (upd H p (.lst ys))) \/
 (J.go i H/\ys.length < Ub/\ ∀ x H',J.Ly i H x H'->g x (σ ++Ue k TL) H' fun σ2 H2=>tt σ2 H2 λb H3 =>
  if b=true then te σ2 H3 λy H4=> ∃ m',m' < m/\W (i+1) m' (ys++[y]) H4 else ∃ m',m' < m/\W (i+1) m' ys H3)
section
variable{X:Cx}{pins:List (Uj × Obj)}{σ :St}{H:Hp}{s:Ua}{scope:XY}{vars:List Str}{cl:List (Str × Uj)}
theorem iV(h:hE scope.names X.env.scope.names X.N vars=true): ∀ p∈scope.names,(p.2= .cell->scope.names.lookup p.1=TK .cell)/\(p.2= .free->X.env.kindOf p.1=TK .cell\/X.env.kindOf p.1=TK .free)/\(p.2= .local->scope.names.lookup p.1=TK .local):=by
 intro p hp;unfold hE at h;simp only[Uw,Wt] at h;obtain⟨⟨h1,_⟩,_⟩:=h;have q:=h1 p hp;simp only[XH,bne_iff_ne,beq_iff_eq] at q;obtain⟨⟨q1,q2⟩,q3⟩:=q;refine⟨λe=>?_,λe=>?_,λe=>?_⟩
 . rcases q1 with z | z
   . exact absurd e z
   . exact z
 . rcases q2 with z | z
   . exact absurd e z
   . exact z
 . rcases q3 with z | z
   . exact absurd e z
   . exact z
theorem Lz(h:hE scope.names X.env.scope.names X.N vars=true): ∀ n∈X.N,¬ n∈vars->scope.names.lookup n≠TK .local/\scope.names.lookup n≠TK .cell:=by
 intro n hn hv;unfold hE at h;simp only[Uw,Wt] at h;obtain⟨⟨_,h2⟩,_⟩:=h;have q:=h2 n hn;simp only[XH,Uw,bne_iff_ne,WL] at q;exact q.resolve_left hv
theorem xZ(h:hE scope.names X.env.scope.names X.N vars=true): ∀ n∈vars,scope.names.lookup (mask n)=TL:=by
 intro n hn;unfold hE at h;simp only[Uw,Wt] at h;simpa using h.2 n hn
theorem Inv.eL{C:Uj}(I:Inv X pins σ H s)(hkind:scope.kind= .function)(hlc:hE scope.names X.env.scope.names X.N vars=true)
  (hc1: ∀ x c,cl.lookup x=TK c->(scope.names.lookup x≠TK .cell/\X.env.cells.lookup x=TK c)\/(scope.names.lookup x=TK .cell/\s.heap.objs.size<=c/\h'.IsCell c TL)) (hc2: ∀ x,scope.names.lookup x=TK .free\/scope.names.lookup x=TK .cell-> ∃ c,cl.lookup x=TK c)
  (hci: ∀ x y c,cl.lookup x=TK c->cl.lookup y=TK c->s.heap.objs.size<=c->x=y)
  (hfp: ∀ b∈fp,gx X pins H b) (hfo: ∀ b∈fp,∃ o,s.heap.get? b=TK o) (hC:s.heap.objs.size<=C) (hn:h'.Ns C m') (k: ∀ b o,s.heap.get? b=TK o->h'.get? b=TK o) :
  Inv (eL X vars scope cl C s H fp (X.pn++pins)) [] (σ ++Ue vars.length TL) H { s with heap:=h',toks:=t'}:=by
 have hHC:=I.bx.fresh hC;have lt: ∀ x c,X.env.cells.lookup x=TK c->c < s.heap.objs.size:=λx c e=>by obtain⟨v,q⟩:=I.cell x c e;exact q.lt
 refine⟨?ok,rfl,I.bare,Un.kept k,⟨m',hn,?loc⟩,λx c e=>?cell,hHC,λx c e=>(hc1 x c e).elim (λz=>I.iE x c z.2) (λz=>I.bx.fresh z.2.1),?pin,I.bx.kept k,?len⟩
 case ok =>
  refine{ mod:=I.ok.mod,kind:=?_,glob:=I.ok.glob,blt:=I.ok.blt,above:=hC,inj:=?_,has:=?_,Nf:=?_,hd:=I.ok.hd,frames:=I.ok.frames,OY:= .inl rfl,R5:=?_,bs:=I.bs,Bc:=UQ I.ok.Bc I.sz,yV:=?_,Cr:=?_,ki:=I.stack,E7:=I.w9}
  . exact hkind
  . intro x y c e1 e2;rcases hc1 x c e1 with z | z
    . rcases hc1 y c e2 with w | w
      . exact I.ok.inj x y c z.2 w.2
      . exact absurd (Ul (lt x c z.2) w.2.1) (U5 _)
    . exact hci x y c e1 e2 z.2.1
  . intro x hx;have hx':(V6 scope cl C X.env).kindOf x=TK .cell\/(V6 scope cl C X.env).kindOf x=TK .free:=hx;have e:(V6 scope cl C X.env).kindOf x=(scope.names.lookup x).map λk=>if (k == Wl&&X.env.scope.kind == .function&&X.env.kindOf x == TK .cell) then Wm else k:=iI
    rw[e] at hx';cases q:scope.names.lookup x with
    | none=>rw[q] at hx';simp at hx'
    | some kd =>
     by_cases hf:kd= .free
     . subst hf;exact hc2 x (.inl q)
     . rw[q] at hx';have hf':(kd == Wl)=false:=by simpa using hf
       simp only[Zg,hf',X9,Ya,if_false,Ym] at hx';rcases hx' with z | z
       . exact hc2 x (.inr (by rw[q,z]))
       . exact absurd z hf
  . intro x c hx e;have hx':(scope.names.lookup x == TK Wm)=true:=hx;rcases hc1 x c e with z | z
    . exact absurd (by simpa using hx') z.1
    . exact z.2.1
  . intro b hb;have f:=hfp b hb;obtain⟨o,e⟩:=hfo b hb;exact⟨UN (Ul (Uk e) hC),λx c e z=>(hc1 x c e).elim (λw=>f.2.2.2.2.1 x c w.2 z) (λw=>absurd (Ul (Uk (z ▸ ‹_› :s.heap.get? c=TK o)) w.2.1) (U5 _))⟩
  . intro b o e hb;have f:=hfp b hb;rcases f.2.2.2.1 with z | z
    . exact I.ok.yV b o e z
    . exact absurd (Ul (Uk (I.ok.bs b o e).1) z) (U5 _)
  . intro b hb z;have f:=hfp b hb;rcases Uh.mp (I.lG b z) with q | q
    . exact f.2.1 q
    . exact f.2.2.1 q
 case loc =>
  intro i x v e1 e2 e3
  have e1':(sL X.N vars)[i]?=TK x:=e1
  have e:(V6 scope cl C X.env).scope.names.lookup x=(scope.names.lookup x).map λk=>if (k == Wl&&X.env.scope.kind == .function&&X.env.kindOf x == TK .cell) then Wm else k:=iI
  by_cases hi:i < σ.length
  . rw[Uq hi] at e2;unfold sL at e1';rw[Uq (by rw[TV,<- I.len];exact hi),U1] at e1';cases q:X.N[i]? with
    | none=>rw[q] at e1';cases e1'
    | some n =>
     rw[q] at e1'
     have e1'':(if vars.contains n=true then mask n else n)=x:=U0 e1'
     have vis:(scope.names.lookup x).isSome=true:=by
      unfold Il at e3;have e3':(V6 scope cl C X.env).scope.names.lookup x=TK .local\/(V6 scope cl C X.env).scope.names.lookup x=TK .cell\/(V6 scope cl C X.env).scope.names.lookup x=TK .free:=e3;rw[e] at e3';cases z:scope.names.lookup x with
      | none=>rw[z] at e3';simp at e3'
      | some _=>rfl
     by_cases hv:n∈vars
     . rw[if_pos (by simpa using hv)] at e1'';have:=xZ (X:=X) hlc n hv;rw[e1''] at this;rw[this] at vis;cases vis
     . rw[if_neg (by simpa using hv)] at e1'';subst e1'';have nl:=Lz (X:=X) hlc n (UW q) hv;cases z:scope.names.lookup n with
       | none=>rw[z] at vis;cases vis
       | some kd =>
        have hm:=iV (X:=X) hlc _ (lookup_mem z)
        have hkd:kd= .free:=by
         unfold Il at e3;have e3':(V6 scope cl C X.env).scope.names.lookup n=TK .local\/(V6 scope cl C X.env).scope.names.lookup n=TK .cell\/(V6 scope cl C X.env).scope.names.lookup n=TK .free:=e3;rw[e,z] at e3';by_cases hf:kd= .free
         . exact hf
         . simp_all
        subst hkd
        have kk:=hm.2.1 rfl
        obtain⟨m,_,hl⟩:=I.loc
        obtain⟨u,r,look⟩:=hl i n v q e2 (.inr kk)
        obtain⟨c,hcl⟩:=hc2 n (.inl z)
        have hco:=(hc1 n c hcl).elim (·.2) (λw=>by rw[z] at w;cases w.1)
        have look': ∃ c,X.env.cells.lookup n=TK c/\s.heap.IsCell c (TK u):=by
         rcases look with⟨y,_⟩ | ⟨_,y⟩
         . rcases kk with w | w<;>(rw[w] at y;cases y)
         . exact y
        obtain⟨c',hc',⟨o,ho,hd⟩⟩:=look'
        have ec:=U0 (hco.symm.trans hc')
        subst ec
        refine⟨u,r,.inr ⟨?_,c,hcl,o,k c o ho,hd⟩⟩
        show(V6 scope cl C X.env).scope.names.lookup n=TK .cell\/(V6 scope cl C X.env).scope.names.lookup n=TK .free
        rw[e,z]
        simp only[Zg]
        split
        . exact .inl rfl
        . exact .inr rfl
  . rw[Uo (Nat.not_lt.mp hi),Ws] at e2;split at e2<;>cases e2
 case cell =>
  rcases hc1 x c e with z | z
  . obtain⟨v,o,ho,hd⟩:=I.cell x c z.2;exact⟨v,o,k c o ho,hd⟩
  . exact⟨TL,z.2.2⟩
 case pin =>
  intro p hp
  have hp':p∈X.pn++pins:=by simpa [L2.eL] using hp
  obtain⟨e,n,ne,nf,d⟩:=I.pin p hp'
  refine⟨k _ _ e,n,UN (Ul (Uk e) hC),λz=>?_,d⟩
  rcases Uh.mp (I.lG p.1 z) with q | q
  . exact ne q
  . exact nf q
 case len =>
  show(σ ++Ue vars.length TL).length=(sL X.N vars).length
  unfold sL
  rw[TX,TX,TV,Zl,I.len]
end
def GK(n:Nat)(g:TG):= ∀ x σ H Q,g x σ H Q->g x σ H fun σ2 H2=>Q σ2 H2/\ ∀ j,j < n-> σ2[j]?= σ[j]?
def OM(n:Nat)(g:De):= ∀ xs σ H Q,g xs σ H Q->g xs σ H fun σ2 H2=>Q σ2 H2/\ ∀ j,j < n-> σ2[j]?= σ[j]?
def vP(g:TG):= ∀ x σ H Q Q',(∀ σ2 H2,Q σ2 H2->Q' σ2 H2)->g x σ H Q->g x σ H Q'
theorem FE(h:n<=i):GK n (fg i):=λx σ H Q q=>⟨q,λj hj=>Um (by omega)⟩
theorem vJ:vP (fg i):=λx σ H Q Q' f q=>f _ _ q
theorem Ld:OM n xQ:=λxs σ H Q q=>⟨q.1,q.2,λ_ _=>rfl⟩
theorem FX(h:GK n g)(hm:vP g)(hs:OM n gs):OM n (lM g gs):=λxs σ H Q q=>by
 obtain⟨v,r,e,z⟩:=q;refine⟨v,r,e,hm _ _ _ _ _ (fun σ2 H2 y=>?_) (h _ _ _ _ z)⟩;have y':=hs _ _ _ _ y.1;have:(fun σ3 H3=>(Q σ3 H3/\ ∀ j,j < n-> σ3[j]?= σ2[j]?))=fun σ3 H3=>(Q σ3 H3/\ ∀ j,j < n-> σ3[j]?= σ[j]?):=by
  simp_all
 rw[this] at y';exact y'
theorem LC{K}(hs:OM n gs):GK n (vq K m gs):=λx σ H Q q=>by
 obtain⟨a,xs,e,h1,h2,h3⟩:=q;exact⟨a,xs,e,h1,h2,hs _ _ _ _ h3⟩
section
variable{X:Cx}{scope:XY}{vars:List Str}{elt tg iter:UR}{ifs:List UR}{pos:Pos}{wi:TI}{g:TG}{tt:TT}{te:TE}
theorem nW{pins:List (Uj × Obj)}{σ :St}{H2:Hp}{s2:Ua}{cl:List (Str × Uj)}{it:Uj}{fp:List Uj}{tn:Nat->Vx->Prop}{J:It}{RR:TY->Uj->aaE->Ua->Prop}{Q:VK}{E:TY->Ua->Prop}
  (hc:X.calm=true) (hx: ∀ v s,¬ X.xe v s) (hkind:scope.kind= .function) (hlc:hE scope.names X.env.scope.names X.N vars=true)
  (hb: ∀ cl C s₀ H₀ ex pn,PG (eL X vars scope cl C s₀ H₀ ex pn) tg g/\PF (eL X vars scope cl C s₀ H₀ ex pn) ifs tt/\PE (eL X vars scope cl C s₀ H₀ ex pn) elt te) (hgk:GK X.N.length g)
  (hc1: ∀ x c,cl.lookup x=TK c->X.env.cells.lookup x=TK c) (hc2: ∀ x,scope.names.lookup x=TK .free-> ∃ c,cl.lookup x=TK c)
  (I2:Inv X pins σ H2 s2) (T:Turn X.prog X.w X.K tg J fp it tn) (st2:tn 0 s2.heap) (f2: ∀ b∈fp,gx X pins H2 b)
  {W:Nat->Nat->List V->Hp->Prop} {m0:Nat} (w0:W 0 m0 [] H2)
  (turn: ∀ i m ys H,W i m ys H->(J.stop i H/\ ∀ p,H p=TL->Q (.ref p) (upd H p (.lst ys))) \/
   (J.go i H/\ys.length < Ub/\ ∀ x H',J.Ly i H x H'->g x (σ ++Ue vars.length TL) H' fun σ2 H2=>tt σ2 H2 λb H3 =>
    if b=true then te σ2 H3 λy H4=> ∃ m',m' < m/\W (i+1) m' (ys++[y]) H4 else ∃ m',m' < m/\W (i+1) m' ys H3))
  (hRR: ∀ D C s4 H4 ys m,Inv X pins σ (upd H4 D (.lst ys)) s4->s4.heap.Ns C m->H4 D=TL->(upd H4 D (.lst ys)) C=TL->C≠X.env.locals->X.s₀.heap.objs.size<=C->(∀ x c,X.env.cells.lookup x=TK c->c≠C)->(∀ p∈X.pn++pins,p.1≠C) ->
   Q (.ref D) (upd H4 D (.lst ys))->RR (.ref D) C (.ok .next) s4) :
  Ur (Uu X.prog X.w) X.A (newList []) (λacc s₃ =>Ur (Uu X.prog X.w) X.A (Zy scope X.env.globals cl [] X.env.qual TL .none (TK X.env)) (λcenv s₄ =>
   WN (Uu X.prog X.w) X.A (.compStart (.ListComp elt [⟨tg,iter,ifs,0⟩] scope pos) 0 (.ref it) acc { cenv with scope:=relabel scope X.env}) (RR acc cenv.locals) s₄) E s₃) E s2:=by
 refine Vi (pI ?_);dsimp only;generalize hH2:s2.heap.push { cls:= .type "list",dict:=TL,data:= .seq ([]).toArray}=P2;have hC:P2.objs.size=s2.heap.objs.size+1:=by rw[<- hH2,Vu]
 have hDC:s2.heap.objs.size≠P2.objs.size:=by rw[hC];exact UN (Xs _)
 have hCle:s2.heap.objs.size<=P2.objs.size:=by rw[hC];exact Zu _
 have hz:(P2.push { cls:= .type "dict",data:= .dict #[]}).objs.size=P2.objs.size+1:=Vu ..;have cn:=vm scope.names (P2.push { cls:= .type "dict",data:= .dict #[]}) cl;rw[hz] at cn;have ci:=uX scope.names (P2.objs.size+1) cl (λx y c e1 _ hl=>absurd (Ul (I2.cell x c (hc1 x c e1)).choose_spec.lt hl) (U5 _)) (λx c e=>Ul (I2.cell x c (hc1 x c e)).choose_spec.lt (Yn hCle));have cs: ∀ x,scope.names.lookup x=TK .free\/scope.names.lookup x=TK .cell-> ∃ c,(WI (P2.objs.size+1) scope.names cl).lookup x=TK c:=λx h=>WW.mp (Xi _ _ _ (h.elim (λz=> .inr (WW.mpr (hc2 x z))) .inl));have hns₁ :(YF (P2.push { cls:= .type "dict",data:= .dict #[]}) scope.names).Ns P2.objs.size (λ_=>TL):=(Heap.Ns.new P2 (.type "dict")).keeps (Zf _ _);have kp: ∀ b o,P2.get? b=TK o->(YF (P2.push { cls:= .type "dict",data:= .dict #[]}) scope.names).get? b=TK o:=λb o e=>Zf _ _ b o (T1 _ e);generalize hh₁ :YF (P2.push { cls:= .type "dict",data:= .dict #[]}) scope.names=h₁ at *;generalize hcl':WI (P2.objs.size+1) scope.names cl=cl' at *;have c1: ∀ x c,cl'.lookup x=TK c->(scope.names.lookup x≠TK .cell/\X.env.cells.lookup x=TK c)\/(scope.names.lookup x=TK .cell/\P2.objs.size+1<=c/\h₁.IsCell c TL):=λx c e=>by
  rcases cn x c e with⟨n,q⟩ | ⟨m,q⟩
  . exact .inl ⟨λz=>n (lookup_mem z),hc1 x c q⟩
  . exact .inr ⟨(iV (X:=X) hlc _ m).1 rfl,q⟩
 have old:=λb o e=>kp b o (hH2 ▸ T1 _ e);have hacc:=kp _ _ (hH2 ▸ Up _ rfl);have c1': ∀ x c,cl'.lookup x=TK c->(scope.names.lookup x≠TK .cell/\X.env.cells.lookup x=TK c)\/(scope.names.lookup x=TK .cell/\s2.heap.objs.size<=c/\h₁.IsCell c TL):=λx c e=>(c1 x c e).imp id λz=>⟨z.1,UQ (Yn hCle) z.2.1,z.2.2⟩
 generalize hDe:s2.heap.objs.size=D at *;generalize hCe:P2.objs.size=C at *;have fo: ∀ b∈fp,∃ o,s2.heap.get? b=TK o:=λb hb=>by obtain⟨o,e,_⟩:=T.obj _ _ st2 b hb;exact⟨o,e⟩
 have fpD: ∀ b∈fp,b < D:=λb hb=>by obtain⟨o,e⟩:=fo b hb;rw[<- hDe];exact Uk e
 have pnlt: ∀ p∈X.pn++pins,p.1 < D:=λp hp=>by rw[<- hDe];exact Uk (I2.pin p hp).1
 have cllt: ∀ x c,X.env.cells.lookup x=TK c->c < D:=λx c e=>by obtain⟨v,q⟩:=I2.cell x c e;rw[<- hDe];exact q.lt
 have hLD:X.env.locals < D:=by rw[<- hDe];exact I2.lt
 have hD0:X.s₀.heap.objs.size<=D:=by rw[<- hDe];exact I2.sz
 have IY0:Inv (eL X vars scope cl' C s2 H2 fp (X.pn++pins)) [] (σ ++Ue vars.length TL) H2 { s2 with heap:=h₁,toks:=s2.toks} :=
  I2.eL hkind hlc (by rw[hDe];exact c1') cs (by rw[hDe];exact ci) f2 fo (by rw[hDe];exact hCle) hns₁ old
 have st1:=T.keep _ _ _ st2 λb _ o e=>old b o e;obtain⟨hg,hf,he⟩:=hb cl' C s2 H2 fp (X.pn++pins);generalize hY:eL X vars scope cl' C s2 H2 fp (X.pn++pins)=Y at *;have Yprog:Y.prog=X.prog:=by rw[<- hY];rfl
 have Yw:Y.w=X.w:=by rw[<- hY];rfl
 have YK:Y.K=X.K:=by rw[<- hY];rfl
 have YA:Y.A=X.A:=by rw[<- hY];rfl
 have Ycalm:Y.calm=true:=by rw[<- hY];exact hc
 have Yenv:Y.env=V6 scope cl' C X.env:=by rw[<- hY];rfl
 have Yloc:Y.env.locals=C:=by rw[Yenv];rfl
 have Yex:Y.ex=fp:=by rw[<- hY];rfl
 have Yfs:Y.fs=zq X.stack:=by rw[<- hY];rfl
 have Ys0:Y.s₀ =s2:=by rw[<- hY];rfl
 have YH0:Y.H₀ =H2:=by rw[<- hY];rfl
 have Ypn:Y.pn=X.pn++pins:=by rw[<- hY];rfl
 have YN:Y.N=sL X.N vars:=by rw[<- hY];rfl
 have Yxe: ∀ v s,¬ Y.xe v s:=by rw[<- hY];exact hx
 have noE: ∀{E':TY->Ua->Prop}{v:TY}{s:Ua},Y.xe v s->E' v s:=λh=>absurd h (Yxe _ _);have Ycell: ∀ x c,Y.env.cells.lookup x=TK c->c≠D:=λx c e=>by
  rw[Yenv] at e;exact(c1 x c e).elim (λz=>UN (cllt x c z.2)) (λz=>VR (Ul (Nat.lt_succ_of_le hCle) z.2.1))
 have fpY: ∀{H':Hp}{pl:List (Uj × Obj)},(∀ b∈fp,H' b=TL)->(∀ p∈pl,D<=p.1)-> ∀ b∈fp,gx Y pl H' b:=λ{H' pl} hn hp b hb=>by
  refine⟨hn b hb,?_,?_,.inl (by rw[Yex];exact hb),?_,?_⟩
  . rw[Yloc];exact UN (Ul (fpD b hb) hCle)
  . rw[Yfs];intro z;rcases Uh.mp (I2.lG b z) with q | q
    . exact(f2 b hb).2.1 q
    . exact(f2 b hb).2.2.1 q
  . intro x c e z;rw[Yenv] at e;exact(c1 x c e).elim (λw=>(f2 b hb).2.2.2.2.1 x c w.2 z) (λw=>absurd (Ul (fpD b hb) (UQ (Yn hCle) (z ▸ w.2.1))) (U5 _))
  . intro p hp';rcases Uz.mp hp' with q | q
    . rw[Ypn] at q;exact(f2 b hb).2.2.2.2.2 p q
    . intro z;have:=hp p q;rw[z] at this;exact absurd (Ul (fpD b hb) this) (U5 _)
 have Dfs:D ∉ Y.fs:=by
  rw[Yfs];intro z;rcases Uh.mp (I2.lG D z) with q | q
  . exact absurd hLD (by rw[q];exact U5 _)
  . exact I2.OD (by rw[hDe];exact T6 _) q
 have loop:WN (Uu X.prog X.w) X.A (.compLoop (.ListComp elt [⟨tg,iter,ifs,0⟩] scope pos) 0 (.ref it) (.ref D) (V6 scope cl' C X.env)) (RR (.ref D) C) { s2 with heap:=h₁,toks:=s2.toks}:=by
  refine nr (λn s'=> ∃ i ys H' ak k,Inv Y [(D,{ cls:= .type "list",data:= .seq ak k})] (σ ++Ue vars.length TL) H' s'/\tn i s'.heap/\(∀ b∈fp,H' b=TL)/\W i n ys H'/\Vals ys ak.toList/\ys.length<=Ub) ?_ m0
   ⟨0,[],H2,_,0,IY0.i9 (λp hp=>?_),st1,λb hb=>(f2 b hb).1,w0,.nil,Vp _⟩
  . rintro n s3 ⟨i,ys,H3,ak,k,I3,st3,fr3,w3,hv,hlen⟩;rcases turn i n ys H3 w3 with⟨stop,q⟩ | ⟨go,hlt,step⟩
    . have d:=T.done Y Yprog Yw YK Ycalm i _ s3 _ H3 (notedBy (Uu X.prog X.w) X.A (V6 scope cl' C X.env) λe s'=>RR (.ref D) C (.error e) s') I3 (fpY fr3 (by intro p hp;rw[UD.mp hp];exact T6 _)) st3 stop;rw[YA] at d;refine UZ d (λr s4 hr=>?_) λ_ _ z=>z;obtain⟨rfl,I4⟩:=hr;obtain⟨eD,nD,_,_,_⟩:=I4.pin (D,_) (UB _ Ug);dsimp only at eD nD;obtain⟨m,hnC,_⟩:=I4.loc;rw[Yloc] at hnC;have hb4:=I4.base;rw[Yfs,Yex,YH0,Ys0] at hb4;have hok4:=I4.bx;rw[Yprog,Yw] at hok4;have hCf:=I4.free;rw[Yloc] at hCf;have neD: ∀ b o,s2.heap.get? b=TK o->b≠D:=λb o e=>by rw[<- hDe];exact UN (Uk e)
      have IX:Inv X pins σ (upd H3 D (.lst ys)) s4:=by
       refine I2.Qa (ch:=fp) (I4.os.trans (by rw[Ys0])) ⟨hb4.keep,hb4.slot,λb o e n hx'=>?_,hb4.there,λb xs e=>?_,λb o u e=>?_,λb ps e=>?_⟩ (λb u e=>?_) I4.bare (λb hb'=>?_)
       . rw[av (neD b o e)];exact hb4.free b o e n hx'
       . rw[av (aE (hb4.kA b xs e) nD)];exact hb4.kA b xs e
       . rw[av (aE (hb4.jO b o u e) nD)];exact hb4.jO b o u e
       . obtain⟨more,e'⟩:=hb4.mB b ps e;exact⟨more,by rw[av (aE e' nD)];exact e'⟩
       . by_cases hbD:b=D
         . subst hbD;rw[aI] at e;cases e;exact⟨hlen,ak.toList,k,hv,by simpa using eD⟩
         . rw[av hbD] at e;exact(hok4 b u e).uM (λc v _ z=>z) (λc z=>by rw[av (aE z nD)];exact z) λc xs z=>by rw[av (aE z nD)];exact z
       . have f:=f2 b hb';exact⟨f.2.2.2.1,f.2.1,f.2.2.2.2.1,f.2.2.2.2.2⟩
      refine hRR D C s4 H3 ys m IX hnC nD (by rw[av (VI hDC)];exact hCf) (VR (Ul hLD hCle)) (UQ hD0 hCle) (λx c e=>UN (Ul (cllt x c e) hCle)) (λp hp=>UN (Ul (pnlt p hp) hCle)) (q D nD)
    . have d:=T.item Y Yprog Yw YK Ycalm i _ s3 _ H3 (notedBy (Uu X.prog X.w) X.A (V6 scope cl' C X.env) λe s'=>RR (.ref D) C (.error e) s') I3 (fpY fr3 (by intro p hp;rw[UD.mp hp];exact T6 _)) st3 go;rw[YA] at d;refine UZ d (λr s4 hr=>?_) λ_ _ z=>z;obtain⟨u,rfl,h4⟩:=hr;refine UZ h4 (λ_ s5 h5=>?_) λ_ _ z=>z;obtain⟨x,H5,I5,r5,y5,st5,fr5⟩:=h5;have I5':=I5.pinned (fpY fr5 (by intro p hp;rw[UD.mp hp];exact T6 _)) (T.obj _ _ st5);have a1:=hg _ s5 _ H5 x u _ I5' r5 (hgk _ _ _ _ (step x H5 y5));rw[Yprog,Yw,YA,Yenv] at a1;refine UZ a1 (λ_ s6 h6=>?_) λ_ _ z=>noE z;obtain⟨σ6,H6,I6,q6,k6⟩:=h6;have a2:=hf _ s6 σ6 H6 _ I6 q6;rw[Yprog,Yw,YA,Yenv] at a2;have back: ∀{pl:List (Uj × Obj)}{H':Hp}{s':Ua},Inv Y pl σ6 H' s'->Inv Y pl (σ ++Ue vars.length TL) H' s':=λ{pl H' s'} I'=>by
       refine I'.weak ?_ λj v e=>?_
       . rw[I'.len,<- I3.len]
       . by_cases hj:j < σ.length
         . rw[k6 j (by rw[<- I2.len];exact hj)];exact e
         . rw[Uo (Nat.not_lt.mp hj),Ws] at e;split at e<;>cases e
      refine UZ a2 (λok s7 h7=>?_) λ_ _ z=>noE z;obtain⟨H7,I7,q7⟩:=h7;cases ok with
      | false =>
       rw[if_neg Ut] at q7
       unfold vg
       rw[if_neg (show ¬ false=true from Ut)]
       obtain⟨m',hm',w7⟩:=q7
       refine⟨m',hm',i+1,ys,H7,ak,k,(back I7).i9 (λp hp=>I7.pin p (UB _ (Wh _ hp))),T.keep _ _ _ st5 λb hb' o e=>(I7.pin (b,o) (UB _ (UB _ (dA hb' e)))).1,λb hb'=>?_,w7,hv,hlen⟩
       obtain⟨o,e,_⟩:=T.obj _ _ st5 b hb'
       exact(I7.pin (b,o) (UB _ (UB _ (dA hb' e)))).2.1
      | true =>
       rw[if_pos rfl] at q7
       unfold vg
       rw[if_pos (show true=true from rfl)]
       have a3:=he _ s7 σ6 H7 _ I7 q7
       rw[Yprog,Yw,YA,Yenv] at a3
       refine UZ a3 (λy s8 h8=>?_) λ_ _ z=>noE z
       obtain⟨v,H8,I8,r8,m',hm',w8⟩:=h8
       obtain⟨eD,nD,neL,nfD,dD⟩:=I8.pin (D,_) (UB _ (Wh _ Ug))
       dsimp only at eD nD neL nfD dD
       refine append_at (hsz:=by have:=hv.length;simp at this;omega) eD λh9 hs9 e9=>?_
       have st8:=T.keep _ _ _ st5 λb hb' o e=>(I8.pin (b,o) (UB _ (UB _ (dA hb' e)))).1
       have fr8: ∀ b∈fp,H8 b=TL:=λb hb'=>by
        obtain⟨o,e,_⟩:=T.obj _ _ st5 b hb';exact(I8.pin (b,o) (UB _ (UB _ (dA hb' e)))).2.1
       have I8':Inv Y [] (σ ++Ue vars.length TL) H8 s8:=(back I8).i9 λp hp=>by cases hp
       have I9:=I8'.turned (it:=D) (h':=h9) (t':=s8.toks) (λb o hb' e=>hs9.extBut b o hb' e) nD neL (.inr (by rw[Ys0,hDe];exact T6 _)) (λx c e=>Ycell x c e) (λp hp=>by
        rw[Ui,Ypn] at hp;exact UN (pnlt p hp))
       refine⟨m',hm',i+1,ys++[v],H8,ak.push y,k+1,I9.i9 (λp hp=>?_),T.keep _ _ _ st8 λb hb' o e=>hs9.extBut b o (UN (fpD b hb')) e,fr8,w8,?_,?_⟩
       . obtain rfl:=UD.mp hp;exact⟨e9,nD,neL,nfD,λv=>by simp⟩
       . rw[aax];exact Vals.append hv (.cons r8 .nil)
       . rw[TX,UC];exact hlt
  . obtain rfl:=UD.mp hp;refine⟨hacc,I2.bx.fresh (by rw[hDe];exact T6 _),?_,Dfs,λv=>by simp⟩;rw[Yloc];exact hDC
 exact codeAny_compStart_list loop (T.self _ 0 _ _ _ st1 loop)
end
section
variable{X:Cx}{scope:XY}{vars:List Str}{elt tg iter:UR}{ifs:List UR}{pos spos py:Pos}{wi:TI}{g:TG}{tt:TT}{te:TE}{i:Nat}{y:Str}
theorem Al vars (hc:X.calm=true) (hx: ∀ v s,¬ X.xe v s) (hkind:scope.kind= .function) (hlc:hE scope.names X.env.scope.names X.N vars=true) (hi:PI X tg iter wi)
  (hb: ∀ cl C s₀ H₀ ex pn,PG (eL X vars scope cl C s₀ H₀ ex pn) tg g/\PF (eL X vars scope cl C s₀ H₀ ex pn) ifs tt/\PE (eL X vars scope cl C s₀ H₀ ex pn) elt te) (hgk:GK X.N.length g)
  (hs: ∀ x,UX iter X.env x=pure x:=by intro _;rfl):PE X (.ListComp elt [⟨tg,iter,ifs,0⟩] scope pos) (Rf vars.length wi g tt te):=by
 intro pins s σ H Q I h;obtain⟨cl,hcl,hc1,hc2⟩:=oN (env:=X.env) (scope:=scope) λp hp hf=>I.ok.has p.1 ((iV (X:=X) hlc p hp).2.1 hf);refine Yt (use:=TL) rfl hs hcl hkind (λp hp=>(iV (X:=X) hlc p hp).2.2) ?_;refine UZ (hi pins s σ H _ I h) (λv s1 h1=>UZ h1 (λitv s2 h2=>?_) λ_ _ z=>z) λ_ _ z=>z;obtain⟨it,fp,tn,J,H2,rfl,I2,T,st2,f2,W,⟨m0,w0⟩,turn⟩:=h2;refine nW (Q:=Q) (RR:=λacc C=>compPost (Uu X.prog X.w) X.A X.xe TL (EP X pins σ Q) acc C) hc hx hkind hlc hb hgk hc1 hc2 I2 T st2 f2 w0 turn ?_;intro D C s4 H4 ys m I4 hn nD nC neL hsz hcell hpin q;refine⟨m,hn,λh' hs'=>⟨.ref D,_,I4.turned (it:=C) (t':=s4.toks) (λb o hb e=>hs'.extBut b o hb e) nC neL (.inr hsz) hcell hpin,rfl,q⟩⟩
def Ah(k i:Nat)(wi:TI)(g:TG)(tt:TT)(te:TE):TS:=λD σ H=>Rf k wi g tt te σ H λv H1=>D.nx (σ.set i (TK v)) H1
theorem Bv vars i (hc:X.calm=true) (hx: ∀ v s,¬ X.xe v s) (hkind:scope.kind= .function) (hlc:hE scope.names X.env.scope.names X.N vars=true) (hN:X.N.Nodup) (hiy:X.N[i]?=TK y) (hy:Loc X.env.scope y)
  (hi:PI X tg iter wi)
  (hb: ∀ cl C s₀ H₀ ex pn,PG (eL X vars scope cl C s₀ H₀ ex pn) tg g/\PF (eL X vars scope cl C s₀ H₀ ex pn) ifs tt/\PE (eL X vars scope cl C s₀ H₀ ex pn) elt te) (hgk:GK X.N.length g)
  (hsw:Wg (.ListComp elt [⟨tg,iter,ifs,0⟩] scope pos) (TK (.Name y py)) spos.line X.env=pure true:=by rfl)
  (hs: ∀ x,UX iter X.env x=pure x:=by intro _;rfl)
  (hf:X.fn y=true\/X.env.scope.names.lookup y=TK .local:=by first | exact .inl rfl | exact .inr rfl | assumption) :
  PS X (.Assign [.Name y py] (.ListComp elt [⟨tg,iter,ifs,0⟩] scope pos) spos) (Ah vars.length i wi g tt te):=by
 intro pins s σ H Dn I h;obtain⟨cl,hcl,hc1,hc2⟩:=oN (env:=X.env) (scope:=scope) λp hp hf=>I.ok.has p.1 ((iV (X:=X) hlc p hp).2.1 hf);rw[exec_Assign_Name_used _ _ _ _ hsw];refine TM (ZV (TM ?_));refine TM (UZ (Yt (use:=TK (X0 (.Name y py) X.env)) (Q:=λ_ s'=>SP X pins Dn .next s') rfl hs hcl hkind (λp hp=>(iV (X:=X) hlc p hp).2.2) ?_) (λ_ s' hq=>Ud (Ud hq)) λ_ _ e=>e);refine UZ (hi pins s σ H _ I h) (λv s1 h1=>UZ h1 (λitv s2 h2=>?_) λ_ _ z=>z) λ_ _ z=>z;obtain⟨it,fp,tn,J,H2,rfl,I2,T,st2,f2,W,⟨m0,w0⟩,turn⟩:=h2;refine nW (Q:=λv H1=>Dn.nx (σ.set i (TK v)) H1) (RR:=λacc C=>compPost (Uu X.prog X.w) X.A X.xe (TK (X0 (.Name y py) X.env)) (λ_ s'=>SP X pins Dn .next s') acc C) hc hx hkind hlc hb hgk hc1 hc2 I2 T st2 f2 w0 turn ?_;intro D C s4 H4 ys m I4 hn nD nC neL hsz hcell hpin q;refine wpAny_assign_Name (qS I4 hN hiy hy (v:= .ref D) rfl (λs5 I5 z9=>?_) hf);obtain⟨a,hsb,ha⟩:=z9;have hCa:C≠a:=by
  rcases ha with z | z
  . rw[z];exact neL
  . exact VI (hcell _ _ z)
 refine⟨m,hn.sameBut hsb hCa,λh' hs'=>?_⟩;exact⟨_,_,I5.turned (it:=C) (t':=s5.toks) (λb o hb e=>hs'.extBut b o hb e) nC neL (.inr hsz) hcell hpin,q⟩
end
theorem sS:bj X (.builtin "isinstance") (λxs H Q=> ∃ x T t b,xs=[x,.ty T]/\jb X.K H x t/\X2 X.K t (.type T)=TK b/\Q (.bl b) H):=by
 intro pins s σ H xs us Q I r h;obtain⟨x,T,t,b,rfl,ty,k,q⟩:=h;obtain⟨u,c,rfl,ru,rc⟩:=vals2 r;cases(show c=Wb T from rc);exact xV I ru ty k λtk=>⟨.bl b,H,I.tok tk,rfl,q⟩
theorem bo.get(x:bo P w H h a o): ∃ ob,h.get? a=TK ob:=by
 induction o with
 | lst xs=>obtain⟨_,ak,n,_,e⟩:=x;exact⟨_,e⟩
 | tup xs=>obtain⟨_,ak,_,ob,e,_⟩:=x;exact⟨_,e⟩
 | dK kvs=>obtain⟨_,_,vs,_,ob,es,ep,e,_⟩:=x;exact⟨_,e⟩
 | dT kvs=>obtain⟨_,_,xs,_,ob,es,ep,e,_⟩:=x;exact⟨_,e⟩
 | set S n=>obtain⟨ob,es,ep,t,e,_⟩:=x;exact⟨_,e⟩
 | ins C dx fs=>obtain⟨_,_,_,e,_⟩:=x;exact⟨_,e⟩
 | own y=>exact x
 | xd fs=>obtain⟨mA,⟨od,es,ep,e,_⟩,_⟩:=x;exact⟨_,e⟩
 | rng lo hi=>obtain⟨t,u,v,e⟩:=x;exact⟨_,e⟩
 | je ob u ih=>obtain⟨e,_⟩:=x;exact⟨_,e⟩
 | tbl ps=>exact⟨_,x⟩
 | met f y=>exact⟨_,x⟩
 | ext φ =>obtain⟨_,e,_⟩:=x;exact e
theorem vY: ∀{us},Vals (ss.map V.str) us->StrsAre us ss:=by
 induction ss with
 | nil=>intro us h;cases h;exact .nil
 | cons x r ih =>
  intro us h
  cases h with
  | cons hx ht =>
   obtain⟨t,rfl⟩:=hx
   exact .cons x t (ih ht)
section
variable{prog:UP}{w:U6}{A:Vk}{E:TY->Ua->Prop}{s:Ua}
theorem QJ[Decidable c](hc:c)(h:Ur M A m Q E s):Ur M A (if c then m else m') Q E s:=by rw[if_pos hc];exact h
def vf(prog:UP)(w:U6)(h:Vx)(v:TY)(kv:Key × TY):= ∃ b o kx n,v= .ref b/\h.get? b=TK o/\o.cls= .type "tuple" /\o.data= .seq #[kx,kv.2] n/\(bz prog w).is kv.1 kx=true
theorem vf.keeps(x:vf prog w h v kv)(k: ∀ b o,h.get? b=TK o->o.cls= .type "tuple" ->h'.get? b=TK o):vf prog w h' v kv :=
 by obtain⟨b,o,kx,n,e,g,c,d,r⟩:=x;exact⟨b,o,kx,n,e,k b o g c,c,d,r⟩
end
section
variable{X:Cx}
def Qv(H:Hp)(y:V)(kv:Key × V):= ∃ b,y= .ref b/\H b=TK (.tup [kV kv.1,kv.2])
end
def lQ(P:UP)(w:U6)(K:TQ)(mg:Str->Option TY) base x k (ps:List Str) sp :=
 ∃(f:Uj)(fd:WD),gi P w K mg base mV k f fd ps sp/\mg x=TK (.ref f)/\Vt K (.ref f)=true/\Binds K fd ps []/\ ∀ us ,us.length=ps.length->Wc fd ⟨us,[]⟩=pure (ps.zip us)
theorem vI.args{K st}{ps:List Str}(F:vI K x qual st f fd)
  (h: ∀ kV doc pm an cdv ct us,us.length=ps.length->Wc (U2 x qual (bD st) (aG st) (aj st) .none kV doc pm an cdv ct) ⟨us,[]⟩=pure (ps.zip us)): ∀ us ,us.length=ps.length->Wc fd ⟨us,[]⟩=pure (ps.zip us):=by
 obtain⟨oc,od,kV,doc,pm,an,cdv,ct,osl,rfl,lk,hcd⟩:=F.ex;exact h kV doc pm an cdv ct
def At(K:TQ)(mg:Str->Option TY) x st:= ∃(f:Uj)(fd:WD),vI K x x st f fd/\mg x=TK (.ref f)
section
variable{P:UP}{w:U6}{K:TQ}{mg:Str->Option TY}{base:Vx}
theorem At.ok{st}(a:At K mg x st)(S:cE N ps (aj st))
  (hb: ∀ kV doc pm an cdv ct us,us.length=ps.length->Wc (U2 x x (bD st) (aG st) (aj st) .none kV doc pm an cdv ct) ⟨us,[]⟩=pure (ps.zip us))
  (len: ∀ vs H Q E,sp vs H Q E->vs.length=ps.length)
  (hbody: ∀ f cdv A outer s H vs Q E,ck k (A.deeper (X5 x (aj st) s.heap.objs.size f cdv))->sp vs H Q E ->
   ∃ t,xj (gj mV P w K mg base N x (aj st) f cdv A outer s H E).lT (aG st) t/\t { nx:=λ_ H'=>Q .non H',rt:=Q} (start N vs) H):lQ P w K mg base x (k+1) ps sp:=by
 obtain⟨f,fd,F,hm⟩:=a;exact⟨f,fd,F.ok S len λcdv A outer s H vs Q E=>hbody f cdv A outer s H vs Q E,hm,F.kp,F.binds hb,F.args hb⟩
theorem At.zf{st}(a:At K mg x st)(hb: ∀ (kV doc pm) (an) (cdv ct) (us),us.length=ps.length->Wc (U2 x x (bD st) (aG st) (aj st) .none kV doc pm an cdv ct) ⟨us,[]⟩=pure (ps.zip us))
  (no: ∀ vs H Q E,¬ sp vs H Q E):lQ P w K mg base x 0 ps sp:=by
 obtain⟨f,fd,F,hm⟩:=a;exact⟨f,fd,⟨λvs H Q E h=>absurd h (no vs H Q E),λA outer s H args us vs Q E _ _ _ _ h=>absurd h (no vs H Q E)⟩,hm,F.kp,F.binds hb,F.args hb⟩
end
section
variable{X:Cx}{x:Str}{k j:Nat}{ps:List Str}{sp:Sp}{e:UR}{es:List UR}{t:TA}{p pos:Pos}
theorem RG(D:lQ X.prog X.w X.K X.mg X.base x j ps sp)(hr:ck k X.A)(hg:Gl X x)(hj:j<=k)(ha:PA X (e::es) t)(hdb:(x == ("__debug__"))=false:=by decide)
  (he:UH (e::es) X.env=(false,Vl e X.env)::UH es X.env:=by rfl) (hpl:(Wq pos (UH es X.env)).any (·.1)=false:=by rfl):PE X (.Call (.Name x p) (e::es) [] pos) (xq sp [] E0 t):=by
 obtain⟨f,fd,F,hm,kp,bd,_⟩:=D;exact FI F (hr.mono hj) hg hm kp bd .nil uT ha hdb he hpl
end
theorem NO{K st kV}(X:K.In h)(G:h.Ns UL mg)
  (a:Va K UL x=TK (TK (.ref f))) (l:K.lookup f=TK ⟨oc,od,.func (U2 x x (bD st) (aG st) (aj st) .none kV doc pm an cdv ct),osl⟩) (c:XF K cdv x=true) (k:Vt K (.ref f)=true):At K mg x st :=
 ⟨f,_,CB l c k,U8 X G a⟩
structure Bl(mg:Str->Option TY):Prop where
 len:mg "len" =TL
 range:mg "range" =TL
 isinstance:mg "isinstance" =TL
 int:mg "int" =TL
 bool:mg "bool" =TL
 tuple:mg "tuple" =TL
 dict:mg "dict" =TL
 sorted:mg "sorted" =TL
 min:mg "min" =TL
 max:mg "max" =TL
 abs:mg "abs" =TL
def Kp a (H H':Hp):= ∀ b o,b≠a->H b=TK o->H' b=TK o
theorem Kp.trans(x:Kp a H H1)(y:Kp a H1 H2):Kp a H H2:=λb o n h=>y b o n (x b o n h)
theorem jH.kp(x:jH H H'):Kp a H H':=λb o _ h=>x b o h
theorem Kp.st:Kp a H (upd H a o):=λb u n q=>by rw[av n];exact q
theorem Kp.lst{a b H H' K xs kvs}(x:Kp a H H')(ha:H a=TK (.dK kvs))(h:fA K H b xs):fA K H' b xs:=by
 rcases h with(h | ⟨o,h⟩) | h
 . exact .inl (.inl (x _ _ (qy h ha (by simp_all)) h))
 . exact .inl (.inr ⟨o,x _ _ (qy h ha (by simp_all)) h⟩)
 . exact .inr h
theorem Kp.tup{a b H H' xs kvs}(x:Kp a H H')(ha:H a=TK (.dK kvs))(h:H b=TK (.tup xs)):H' b=TK (.tup xs):=x _ _ (qy h ha (by simp_all)) h
class G7 (t:TE):Prop where
 m: ∀ σ H Q Q',(∀ x H1,Q x H1->Q' x H1)->t σ H Q->t σ H Q'
class HB (t:TT):Prop where
 m: ∀ σ H Q Q',(∀ x H1,Q x H1->Q' x H1)->t σ H Q->t σ H Q'
class SM (t:TA):Prop where
 m: ∀ σ H Q Q',(∀ x H1,Q x H1->Q' x H1)->t σ H Q->t σ H Q'
class Td (t:TO):Prop where
 m: ∀ σ H Q Q',(∀ x H1,Q x H1->Q' x H1)->t σ H Q->t σ H Q'
class SK (t:TI):Prop where
 m: ∀ σ H Q Q',(∀ x H1,Q x H1->Q' x H1)->t σ H Q->t σ H Q'
class SW (r:R2):Prop where
 m: ∀ x y H Q Q',(∀ x H1,Q x H1->Q' x H1)->r x y H Q->r x y H Q'
class Sx (r:V->Hp->VK->Prop):Prop where
 m: ∀ x H Q Q',(∀ x H1,Q x H1->Q' x H1)->r x H Q->r x H Q'
class S1 (r:List V->Hp->VK->Prop):Prop where
 m: ∀ x H Q Q',(∀ x H1,Q x H1->Q' x H1)->r x H Q->r x H Q'
class SX (r:V->List V->Hp->VK->Prop):Prop where
 m: ∀ x xs H Q Q',(∀ x H1,Q x H1->Q' x H1)->r x xs H Q->r x xs H Q'
class Tc (r:V->Option Int->Option Int->Hp->VK->Prop):Prop where
 m: ∀ x l u H Q Q',(∀ x H1,Q x H1->Q' x H1)->r x l u H Q->r x l u H Q'
class Rt (sp:Sp):Prop where
 m: ∀ vs H Q Q' E,(∀ x H1,Q x H1->Q' x H1)->sp vs H Q E->sp vs H Q' E
section
variable{X:Cx}
def Pu(K:TQ):List V->Hp->VK->Prop:=λxs H Q=> ∃ p ys,xs=[.ref p]/\(fA K H p ys\/fK K H p ys)/\Q (.int ys.length) H
def Od:List V->Hp->VK->Prop:=λxs H Q=> ∃ z,xs=[.str z]/\z.length<=Ub/\Q (.int z.length) H
theorem DQ:bj X (.builtin "len") (λxs H Q=>Pu X.K xs H Q\/Od xs H Q):=rh.or rE
def OH(K:TQ):List V->Hp->VK->Prop:=λxs H Q=> ∃ x T t b,xs=[x,.ty T]/\jb K H x t/\X2 K t (.type T)=TK b/\Q (.bl b) H
theorem Dw:bj X (.builtin "isinstance") (OH X.K):=sS
def N3:List V->Hp->VK->Prop:=λxs H Q=>(∃ i,xs=[.int i]/\Q (.int i) H)\/ ∃ k,xs=[.bl k]/\Q (.int (if k then 1 else 0)) H
def IK(K:TQ):List V->Hp->VK->Prop:=λxs H Q=> ∃ p ys,xs=[.ref p]/\((fA K H p ys/\ ∀ l,H l=TL->Q (.ref l) (upd H l (.tup ys)))\/(fK K H p ys/\Q (.ref p) H))
theorem FJ:bj X (.type "int") N3:=yZ
theorem Gf:bj X (.type "tuple") (IK X.K):=pQ
end
structure Kc(D D':Ends):Prop where
 nx: ∀ σ H,D.nx σ H->D'.nx σ H
 rt: ∀ v H,D.rt v H->D'.rt v H
 bk: ∀ σ H,D.bk σ H->D'.bk σ H
 ct: ∀ σ H,D.ct σ H->D'.ct σ H
class Sy (t:TS):Prop where
 m: ∀ D D' σ H,Kc D D'->t D σ H->t D' σ H
class Hq (g:TG):Prop where
 m: ∀ x σ H Q Q',(∀ σ2 H2,Q σ2 H2->Q' σ2 H2)->g x σ H Q->g x σ H Q'
class Sl (g:De):Prop where
 m: ∀ x σ H Q Q',(∀ σ2 H2,Q σ2 H2->Q' σ2 H2)->g x σ H Q->g x σ H Q'
noncomputable def stK(a:Uj)(k:Int)(l:Option Int):List (Key × V):=match l with
 | none=>[(.inr "script",.ref a),(.inr "k",.int k)]
 | some l=>[(.inr "script",.ref a),(.inr "k",.int k),(.inr "left",.int l)]
def wq(K:TQ)(H:Hp) a (xs:List V):=(∃ o,H a=TK (.je o (.lst xs))) \/
 ∃(o:Obj)(ak:Array TY)(n:Nat),K.lookup a=TK o/\o.cls= .type "list" /\o.dict=TL/\o.data= .seq ak n/\ak.size<=Ub/\Vals xs ak.toList
theorem wq.sq{K}(h:wq K H a xs):fA K H a xs:=by
 rcases h with⟨o,h⟩ | h
 . exact .inl (.inr ⟨o,h⟩)
 . exact .inr h
theorem wq.upd{K}(h:wq K H a xs)(hc:H c=TK u)(hu: ∀ o w,u≠ .je o w):wq K (upd H c o') a xs:=by
 rcases h with⟨o,h⟩ | h
 . exact .inl ⟨o,by rw[av (qy h hc λz=>hu _ _ z.symm)];exact h⟩
 . exact .inr h
theorem Kp.je{st a H H' K xs kvs}(x:Kp st H H')(ha:H st=TK (.dK kvs))(h:wq K H a xs):wq K H' a xs:=by
 rcases h with⟨o,h⟩ | h
 . exact .inl ⟨o,x _ _ (qy h ha (by simp_all)) h⟩
 . exact .inr h
theorem jH.je{a H H' K xs}(x:jH H H')(h:wq K H a xs):wq K H' a xs:=by
 rcases h with⟨o,h⟩ | h
 . exact .inl ⟨o,x _ _ h⟩
 . exact .inr h
def jM(K:TQ) H st k (l:Option Int):= ∃(a:Uj)(ns:List Int),H st=TK (.dK (stK a k l))/\wq K H a (ns.map V.int)/\ns.length<=63/\0<=k
theorem jM.keep{K st}(x:jM K H st k l)(y:Kp st H H')(e:H' st=H st):jM K H' st k l :=
 by obtain⟨a,ns,h1,h2,h3,h4⟩:=x;exact⟨a,ns,e.trans h1,y.je h1 h2,h3,h4⟩
theorem jM.same{K:TQ}{H H':Hp}{st:Uj}{k:Int}{l:Option Int}(x:jM K H st k l)(y:jH H H'):jM K H' st k l :=
 let ⟨a,ns,h1,h2,h3,h4⟩:=x;jM.keep ⟨a,ns,h1,h2,h3,h4⟩ y.kp ((y _ _ h1).trans h1.symm)
theorem jM.upd{K st}(x:jM K H st k l)(hc:H c=TK u)(hu: ∀ o w,u≠ .je o w)(hn:c≠st):jM K (upd H c o) st k l :=
 by obtain⟨a,ns,h1,h2,h3,h4⟩:=x;exact⟨a,ns,by rw[av (VI hn)];exact h1,h2.upd hc hu,h3,h4⟩
theorem jM.at{K st}(x:jM K H st k l): ∃ kvs,H st=TK (.dK kvs):=by obtain⟨a,ns,h1,_⟩:=x;exact⟨_,h1⟩
theorem jM.pos{K st}(x:jM K H st k l):0<=k:=by obtain⟨a,ns,h1,_,_,h⟩:=x;exact h
noncomputable def noStar:UR->Bool
 | .Starred _ _=>false
 | _=>true
theorem a9(h:noStar e=true):UH (e::es) env=(false,Vl e env)::UH es env:=by
 cases e<;>first | rfl | cases h
theorem fX: ∀{es},es.all noStar=true->(Wq pos (UH es env)).any (·.1)=false
 | [],_=>rfl
 | e::es,h=>by
  have h:=Zz.mp (WJ ▸ h);rw[a9 h.1];have:=fX (pos:=pos) (env:=env) h.2;exact this
section
variable{X:Cx}{e:UR}{es:List UR}{te:TE}{t:TA}
theorem pk(ha:PE X e te)(hr:PA X es t)(hs:noStar e=true:=by rfl):PA X (e::es) (Bd te t):=DE ha hr (a9 hs)
variable{x:Str}{k j:Nat}{ps:List Str}{sp:Sp}{p pos:Pos}{id T:String}{r:List V->Hp->VK->Prop}
theorem kd(D:lQ X.prog X.w X.K X.mg X.base x j ps sp)(hr:ck k X.A)(hg:Gl X x)(hj:j<=k)(ha:PA X (e::es) t)(hdb:(x == ("__debug__"))=false:=by decide)(he:noStar e=true:=by rfl)(hpl:es.all noStar=true:=by rfl) :
  PE X (.Call (.Name x p) (e::es) [] pos) (xq sp [] E0 t):=RG D hr hg hj ha hdb (a9 he) (fX hpl)
theorem kB(hc:bj X (.builtin id) r)(hg:Gl X x)(hm:X.mg x=TL)(hv:Vy x=TK (.builtin id))(ha:PA X (e::es) t)(hn:x≠ "__name__" :=by decide)(hdb:(x == ("__debug__"))=false:=by decide)(he:noStar e=true:=by rfl)(hpl:es.all noStar=true:=by rfl) :
  PE X (.Call (.Name x p) (e::es) [] pos) (JJ r t):=Ce hc hg hm hv ha hn hdb (a9 he) (fX hpl)
theorem kT(hc:bj X (.type T) r)(hg:Gl X x)(hm:X.mg x=TL)(hv:Vy x=TK (.type T))(ha:PA X (e::es) t)(hn:x≠ "__name__" :=by decide)(hdb:(x == ("__debug__"))=false:=by decide)(he:noStar e=true:=by rfl)(hpl:es.all noStar=true:=by rfl) :
  PE X (.Call (.Name x p) (e::es) [] pos) (JJ r t):=yy hc hg hm hv ha hn hdb (a9 he) (fX hpl)
end
structure QE(X:Cx)(e:UR)(t:TE):Prop where h:PE X e t
structure QT(X:Cx)(e:UR)(t:TT):Prop where h:PT X e t
structure QW(X:Cx)(e:UR)(t:TT):Prop where h:PW X e t
structure QA(X:Cx)(es:List UR)(t:TA):Prop where h:PA X es t
structure QO(X:Cx)(e:Option UR)(t:TO):Prop where h:PO X e t
structure QS(X:Cx)(s:Xe)(t:TS):Prop where h:PS X s t
structure C8(X:Cx)(s:List Xe)(t:TS):Prop where h:xj X s t
structure QG(X:Cx)(e:UR)(t:TG):Prop where h:PG X e t
structure LB(X:Cx)(e:List UR)(t:De):Prop where h:NT X e t
structure QI(X:Cx)(tg e:UR)(t:TI):Prop where h:PI X tg e t
structure QF(X:Cx)(es:List UR)(t:TT):Prop where h:PF X es t
structure QP(X:Cx)(pos:Pos)(ks:List (Option UR))(vs:List UR)(t:List (TE × TE)):Prop where h:NL X pos ks vs t
section
variable{X:Cx}{a b c e o i:UR}{es:List UR}{ta tb tc te td ty tx tv to ti:TE}{t t':TT}{tr:TA}{pos p p2 pos' apos cpos:Pos}{x y:Str}
theorem qv i (hN:X.N[i]?=TK x:=by rfl) (hv:Il X.env.scope x:=by first | exact Zw rfl | exact X7 (Zw rfl) | exact X7 (X7 rfl)) (hd:(x == ("__debug__"))=false:=by decide)
  (hcd:(x == ("__classdict__"))=false:=by decide):QE X (.Name x pos) (IB i):=⟨By hN hv hd hcd⟩
theorem K0:QE X (.Constant (.int n) j pos) (tC (.int n)):=⟨IE⟩
theorem Pz:QE X (.Constant (.bool n) j pos) (tC (.bl n)):=⟨Qw⟩
theorem HU:QE X (.Constant (.str n) j pos) (tC (.str n)):=⟨IG⟩
theorem xp(hg:Gl X x)(hm:X.mg x=TK u)(r:RelV v u)(hd:(x == ("__debug__"))=false:=by decide):QE X (.Name x pos) (tC v):=⟨wV hg hm r hd⟩
theorem F1(hg:Gl X x)(hm:X.mg x=TL)(hv:Vy x=TK u)(r:RelV v u)(hn:x≠ "__name__" :=by decide)(hd:(x == ("__debug__"))=false:=by decide):QE X (.Name x pos) (tC v):=⟨D7 hg hm hv r hn hd⟩
theorem Ob(ho:cT X (VC op) r)(ha:QE X a ta)(hb:QE X b tb):QE X (.BinOp a op b pos) (EX r ta tb):=⟨OS ho ha.h hb.h⟩
theorem NX{op:UnaryOp}{r:V->Hp->VK->Prop}(ho:Nd X (aaT op) r)(ha:QE X a ta):QE X (.UnaryOp op a pos) (S0 r ta):=⟨Pt ho ha.h⟩
theorem KZ(ha:QE X a ta):QE X (.UnaryOp .Not a pos) (HM ta):=⟨Jn ha.h⟩
theorem JY(h:QE X a ta):QE X (.BoolOp op [a] pos) ta:=⟨Kk h.h⟩
theorem Jm{rest}(ha:QE X a ta)(hb:QE X (.BoolOp .And (b::rest) pos) tb):QE X (.BoolOp .And (a::b::rest) pos) (G9 ta tb):=⟨IJ ha.h hb.h⟩
theorem OJ{rest}(ha:QE X a ta)(hb:QE X (.BoolOp .Or (b::rest) pos) tb):QE X (.BoolOp .Or (a::b::rest) pos) (Qh ta tb):=⟨NJ ha.h hb.h⟩
theorem AY(hc:QT X c t)(ha:QE X a ta)(hb:QE X b tb):QE X (.IfExp c a b pos) (SN t ta tb):=⟨Bb hc.h ha.h hb.h⟩
theorem L5(h:QA X es tr):QE X (.Tuple es x1 pos) (Pk tr):=⟨JB h.h⟩
theorem Ka(h:QA X es tr):QE X (.List es pos) (NM tr):=⟨Lg h.h⟩
theorem BU:QE X (.Dict [] [] pos) B0:=⟨Cc⟩
theorem D6:QP X pos [] [] []:=⟨E9⟩
theorem Bp(hk:QE X k tk)(hv:QE X v tv)(hr:QP X pos ks vs trs):QP X pos (TK k::ks) (v::vs) ((tk,tv)::trs):=⟨AE hk.h hv.h hr.h⟩
theorem Ek(h:QP X pos ks vs trs)(hall:ks.all (·.isSome)=true)(hl:ks.length=vs.length)(h0:ks≠[])(h15:ks.length<=15):QE X (.Dict ks vs pos) (Hx trs):=⟨Gk h.h hall hl h0 h15⟩
theorem Fc:QO X TL wQ:=⟨F8⟩
theorem GV(h:QE X e te):QO X (TK e) (Hw te):=⟨F2 h.h⟩
theorem Bi{lo}(hr:C5 X r)(he:QE X e te)(hl:QO X lo tl)(hu:QO X hi th):QE X (.Subscript e (.Slice lo hi TL p2) pos) (SV r te tl th):=⟨CA hr he.h hl.h hu.h⟩
theorem Qo(hr:yF X r)(ha:QE X a ta)(hb:QE X b tb)(hs:rV b):QE X (.Subscript a b pos) (EX r ta tb):=⟨Np hr ha.h hb.h hs⟩
theorem rF:QA X [] FK:=⟨KW⟩
theorem qk(ha:QE X e te)(hr:QA X es tr)(hs:noStar e=true:=by rfl):QA X (e::es) (Bd te tr):=⟨pk ha.h hr.h hs⟩
variable{k j:Nat}{ps:List Str}{sp:Sp}{id T:String}{r:List V->Hp->VK->Prop}
theorem qd(D:lQ X.prog X.w X.K X.mg X.base x j ps sp)(hr:ck k X.A)(hg:Gl X x)(hj:j<=k)(ha:QA X (e::es) tr)(hdb:(x == ("__debug__"))=false:=by decide)(he:noStar e=true:=by rfl)(hpl:es.all noStar=true:=by rfl) :
  QE X (.Call (.Name x p) (e::es) [] pos) (xq sp [] E0 tr):=⟨kd D hr hg hj ha.h hdb he hpl⟩
theorem qB(hc:bj X (.builtin id) r)(hg:Gl X x)(hm:X.mg x=TL)(hv:Vy x=TK (.builtin id))(ha:QA X (e::es) tr)(hn:x≠ "__name__" :=by decide)(hdb:(x == ("__debug__"))=false:=by decide)(he:noStar e=true:=by rfl)(hpl:es.all noStar=true:=by rfl) :
  QE X (.Call (.Name x p) (e::es) [] pos) (JJ r tr):=⟨kB hc hg hm hv ha.h hn hdb he hpl⟩
theorem qT(hc:bj X (.type T) r)(hg:Gl X x)(hm:X.mg x=TL)(hv:Vy x=TK (.type T))(ha:QA X (e::es) tr)(hn:x≠ "__name__" :=by decide)(hdb:(x == ("__debug__"))=false:=by decide)(he:noStar e=true:=by rfl)(hpl:es.all noStar=true:=by rfl) :
  QE X (.Call (.Name x p) (e::es) [] pos) (JJ r tr):=⟨kT hc hg hm hv ha.h hn hdb he hpl⟩
theorem Hf(pa:YW T)(slot:Slot T name id)(hty:aaZ (.builtin id)=pure (.type "method_descriptor"))(hm:vz X id rm)(ho:QE X o to)(ha:QA X [e] tr)
  (hbase:VQ o name X.env (Vl o X.env)=Vl o X.env:=by rfl) (hline:(apos.endLine == cpos.line)=true:=by rfl) (hs:noStar e=true:=by rfl) :
  QE X (.Call (.Attribute o name apos) [e] [] cpos) (SJ X.K T rm to tr):=⟨Ou pa slot hty hm ho.h ha.h hbase (by rw[a9 hs];rfl) hline (a9 hs) rfl⟩
theorem Fq{r}(ho:cT X (UJ op) r)(ha:QE X a ta)(hb:QE X b tb)(hm:U7 op b=false):QE X (.Compare a [op] [b] pos) (EX r ta tb):=⟨F0 ho ha.h hb.h hm⟩
theorem Er{r}(ho:cT X (UJ op) r)(ha:QE X a ta)(hb:QE X b tb)(hm:U7 op b=false):QT X (.Compare a [op] [b] pos) (tW (EX r ta tb)):=⟨E1 ho ha.h hb.h hm⟩
theorem AN{r}(ho:cT X (UJ op) r)(ho':cT X (UJ op') r')(ha:QE X a ta)(hb:QE X b tb)(hc:QE X c tc)(hm:Yz [op,op'] [b,c]=false:=by with_unfolding_all rfl):QE X (.Compare a [op,op'] [b,c] pos) (nN r r' ta tb tc):=⟨Bj ho ho' ha.h hb.h hc.h hm⟩
theorem AU{op op':CmpOp}{r r':R2}(ho:cT X (UJ op) r)(ho':cT X (UJ op') r')(ha:QE X a ta)(hb:QE X b tb)(hc:QE X c tc)(hm:Yz [op,op'] [b,c]=false:=by with_unfolding_all rfl):QT X (.Compare a [op,op'] [b,c] pos) (tW (nN r r' ta tb tc)):=⟨Bq ho ho' ha.h hb.h hc.h hm⟩
theorem Mj(ha:QE X a ta):QE X (.Compare a [.Is] [.Constant .none j pos'] pos) (LJ ta):=⟨Co (zS ha.h)⟩
theorem Ih(ha:QE X a ta):QT X (.Compare a [.Is] [.Constant .none j pos'] pos) (tB (LJ ta)):=⟨Ay (zS ha.h)⟩
theorem En(ha:QT X a t):QW X (.BoolOp .And [a] pos) t:=⟨pw_and1 ha.h⟩
theorem IZ(ha:QT X a t):QW X (.BoolOp .Or [a] pos) t:=⟨pw_or1 ha.h⟩
theorem Kl{rest}(ha:QT X a t)(hb:QW X (.BoolOp .And (b::rest) pos) t'):QW X (.BoolOp .And (a::b::rest) pos) (Oz t t'):=⟨pw_and ha.h hb.h⟩
theorem OC{rest}(ha:QT X a t)(hb:QW X (.BoolOp .Or (b::rest) pos) t'):QW X (.BoolOp .Or (a::b::rest) pos) (SU t t'):=⟨pw_or ha.h hb.h⟩
theorem QW.pt(h:QW X e t):QT X e t:=⟨h.h.pt⟩
theorem KG(ha:QT X a t):QT X (.UnaryOp .Not a pos) (Pl t):=⟨IV ha.h⟩
theorem Je(h:QE X e te)(he: ∀ whole,aaA e X.env whole=(do let v <- whole;Yj e.pos;WS [v] (truthy v)):=by intro _;rfl):QT X e (tB te):=⟨Jq h.h he⟩
theorem xw{i}(hN:X.N.Nodup)(hi:X.N[i]?=TK x)(hx:Loc X.env.scope x)(hf:X.fn x=true\/X.env.scope.names.lookup x=TK .local:=by first | exact .inl rfl | exact .inr rfl | assumption):QG X (.Name x pos) (fg i):=⟨FO hN hi hx hf⟩
theorem wx:LB X [] xQ:=⟨DR⟩
theorem uG{t}(h1:QG X e t)(h2:LB X es u)(hs:(Vs (e::es) X.env).map (·.2)=X0 e X.env::(Vs es X.env).map (·.2):=by rfl):LB X (e::es) (lM t u):=⟨BX h1.h h2.h hs⟩
theorem zV{t}(hc:X.calm=true)(h:LB X es t)(hn:(Vs es X.env).length=n:=by rfl)(hst:(Vs es X.env).findIdx? (·.1)=TL:=by rfl):QG X (.Tuple es k pos) (vq X.K n t):=⟨Ky hc h.h hn hst⟩
variable{tg iter l:UR}{wi:TI}{g:TG}{ta':TA}
theorem IQ:QF X [] Hz:=⟨IL⟩
variable{scope:XY}{ifs:List UR}{body rest:List Xe}{spos py:Pos}{tb' ts us:TS}{st:Xe}
theorem C3 vars (hc:X.calm=true) (hx: ∀ v s,¬ X.xe v s) (hkind:scope.kind= .function) (hlc:hE scope.names X.env.scope.names X.N vars=true) (hi:QI X tg iter wi)
  (hb: ∀ cl C s₀ H₀ ex pn,QG (eL X vars scope cl C s₀ H₀ ex pn) tg g/\QF (eL X vars scope cl C s₀ H₀ ex pn) ifs t/\QE (eL X vars scope cl C s₀ H₀ ex pn) e te) (hgk:GK X.N.length g)
  (hs: ∀ x,UX iter X.env x=pure x:=by intro _;rfl):QE X (.ListComp e [⟨tg,iter,ifs,0⟩] scope pos) (Rf vars.length wi g t te) :=
 ⟨Al vars hc hx hkind hlc hi.h (λcl C s₀ H₀ ex pn=>by obtain⟨h1,h2,h3⟩:=hb cl C s₀ H₀ ex pn;exact⟨h1.h,h2.h,h3.h⟩) hgk hs⟩
theorem A8 vars i (hc:X.calm=true) (hx: ∀ v s,¬ X.xe v s) (hkind:scope.kind= .function) (hlc:hE scope.names X.env.scope.names X.N vars=true) (hN:X.N.Nodup) (hiy:X.N[i]?=TK y) (hy:Loc X.env.scope y) (hi:QI X tg iter wi)
  (hb: ∀ cl C s₀ H₀ ex pn,QG (eL X vars scope cl C s₀ H₀ ex pn) tg g/\QF (eL X vars scope cl C s₀ H₀ ex pn) ifs t/\QE (eL X vars scope cl C s₀ H₀ ex pn) e te) (hgk:GK X.N.length g)
  (hsw:Wg (.ListComp e [⟨tg,iter,ifs,0⟩] scope pos) (TK (.Name y py)) spos.line X.env=pure true:=by rfl) (hs: ∀ x,UX iter X.env x=pure x:=by intro _;rfl)
  (hf:X.fn y=true\/X.env.scope.names.lookup y=TK .local:=by first | exact .inl rfl | exact .inr rfl | assumption) :
  QS X (.Assign [.Name y py] (.ListComp e [⟨tg,iter,ifs,0⟩] scope pos) spos) (Ah vars.length i wi g t te) :=
 ⟨Bv vars i hc hx hkind hlc hN hiy hy hi.h (λcl C s₀ H₀ ex pn=>by obtain⟨h1,h2,h3⟩:=hb cl C s₀ H₀ ex pn;exact⟨h1.h,h2.h,h3.h⟩) hgk hsw hs hf⟩
theorem II{i}(hN:X.N.Nodup)(hi:X.N[i]?=TK x)(hx:Loc X.env.scope x)(he:QE X e te)(hs:Wg e (TK (.Name x pos')) pos.line X.env=pure false:=by rfl)(hf:X.fn x=true\/X.env.scope.names.lookup x=TK .local:=by first | exact .inl rfl | exact .inr rfl | assumption) :
  QS X (.Assign [.Name x pos'] e pos) (DT te (fg i)):=⟨Ir hN hi hx he.h hs hf⟩
theorem JZ(he:QE X e te)(hg:QG X tg g)(hs:ZW [tg] e pos.line X.env=pure false:=by rfl)(hw:ZX [tg] e X.env=pure TL:=by rfl)(h1:(Vs [tg] X.env).map (·.2)=[X0 tg X.env]:=by rfl):QS X (.Assign [tg] e pos) (DT te g):=⟨LQ he.h hg.h hs hw h1⟩
theorem ON(hc:QT X c t)(ha:C8 X A ts)(hb:C8 X B us):QS X (.If c A B pos) (PM t ts us):=⟨Nn hc.h ha.h hb.h⟩
theorem CL(hp:aaC (Uu X.prog X.w) X.A X.env X.xe)(hc:X.calm=true)(hi:QI X tg iter wi)(hg:QG X tg g)(hb:C8 X body tb')(hs: ∀ x,UX iter X.env x=pure x:=by intro _;rfl):QS X (.For tg iter body [] pos) (Qe wi g tb'):=⟨JN hp hc hi.h hg.h hb.h hs⟩
theorem GF(he:QE X e te)(hs:Wg e TL pos.line X.env=pure false:=by rfl):QS X (.Expr e pos) (HG te):=⟨D5 he.h hs⟩
theorem Ju(he:QE X e te):QS X (.Return (TK e) pos) (N7 te):=⟨HW he.h⟩
theorem FR:C8 X [] C1:=⟨DK⟩
theorem BN(h1:QS X st ts)(h2:C8 X rest us):C8 X (st::rest) (Ik ts us):=⟨BA h1.h h2.h⟩
theorem EG(h1:QS X st ts):C8 X [st] ts:=⟨Ex h1.h⟩
end
theorem At.QX{K st}(a:At K mg x st)(S:cE N ps (aj st))
  (hb: ∀ kV doc pm an cdv ct us,us.length=ps.length->Wc (U2 x x (bD st) (aG st) (aj st) .none kV doc pm an cdv ct) ⟨us,[]⟩=pure (ps.zip us))
  (len: ∀ vs H Q E,sp vs H Q E->vs.length=ps.length)
  (hbody: ∀ f cdv A outer s H vs Q E,ck k (A.deeper (X5 x (aj st) s.heap.objs.size f cdv))->sp vs H Q E ->
   ∃ t,C8 (gj mV P w K mg base N x (aj st) f cdv A outer s H E).lT (aG st) t/\t { nx:=λ_ H'=>Q .non H',rt:=Q} (start N vs) H):lQ P w K mg base x (k+1) ps sp :=
 a.ok S hb len λf cdv A outer s H vs Q E hr h=>by obtain⟨t,q,z⟩:=hbody f cdv A outer s H vs Q E hr h;exact⟨t,q.h,z⟩
theorem eV(h:0<=r):mK xs (TK r) TL=xs.drop r.toNat:=by
 have e:r=((r.toNat)):=by omega
 unfold mK;rw[e,HT.mS,HT.ke];simp only[VL];rcases YZ r.toNat xs.length with z | z
 . grind
 . rw[Xu z,VA z];simp
theorem we(h:0<=r):mK xs TL (TK r)=xs.take r.toNat:=by
 have e:r=((r.toNat)):=by omega
 unfold mK;rw[e,HT.mS,HT.ke];simp only[VL,ZA,aay];rcases YZ r.toNat xs.length with z | z
 . rw[Zh z]
 . rw[Xu z,Wz (T6 _),Wz z]
def Tp k (g:TG) (tt:TT) (te:TE) (σ :St) (Q:VK) (J:It) H1:= ∃ W:Nat->Nat->List V->Hp->Prop,(∃ m,W 0 m [] H1)/\ ∀ i m ys H,W i m ys H ->
 (J.stop i H/\ ∀ p,H p=TL->Q (.ref p) (upd H p (.lst ys))) \/
 (J.go i H/\ys.length < Ub/\ ∀ x H',J.Ly i H x H'->g x (σ ++Ue k TL) H' fun σ2 H2=>tt σ2 H2 λb H3 =>
  if b=true then te σ2 H3 λy H4=> ∃ m',m' < m/\W (i+1) m' (ys++[y]) H4 else ∃ m',m' < m/\W (i+1) m' ys H3)
class R0 (trs:List (TE × TE)):Prop where
 m: ∀ σ H Q Q',(∀ ps H1,Q ps H1->Q' ps H1)->kW trs σ H Q->kW trs σ H Q'
theorem vI.QX{P:UP}{w:U6}{K:TQ}{mg:Str->Option TY}{base:Vx}{x qual:Str}{st:Xe}{f:Uj}{fd:WD}{N ps:List Str}{k:Nat}{sp:Sp}(F:vI K x qual st f fd)(S:cE N ps (aj st))(len: ∀ vs H Q E,sp vs H Q E->vs.length=ps.length)
  (hbody: ∀(f:Uj)(cdv:TY)(A:Vk)(outer:List Env)(s:Ua)(H:Hp)(vs:List V)(Q:VK)(E:XK),ck k (A.deeper (X5 qual (aj st) s.heap.objs.size f cdv))->sp vs H Q E ->
   ∃ t,C8 (gj mV P w K mg base N qual (aj st) f cdv A outer s H E).lT (aG st) t/\t { nx:=λ_ H'=>Q .non H',rt:=Q} (start N vs) H):gi P w K mg base mV (k+1) f fd ps sp :=
 F.ok S len λcdv A outer s H vs Q E hr h=>let ⟨t,q,z⟩:=hbody f cdv A outer s H vs Q E hr h;⟨t,q.h,z⟩
theorem Kf{K}(o:AV H)(h:fA K H a xs):wq K H a xs:=by
 rcases h with(h | ⟨u,h⟩) | h
 . rcases o a with z | ⟨u,ys,z⟩<;>(rw[h] at z;cases z)
 . exact .inl ⟨u,h⟩
 . exact .inr h
def KD(P:UP)(w:U6)(K:TQ) a (kvs:List (Key × V)):=(a == VX)=false /\
 ∃(o:Obj)(es:Array DictEntry)(ep:Nat)(vs:List (Key × TY)),K.lookup a=TK o/\o.ExactDict/\o.data= .dict es ep/\PySem.KeysOf (bz P w) es/\Pairs (bz P w) es.toList vs/\(vs.map (·.1)).Nodup/\KV kvs vs
theorem Inv.kd{σ :St}(I:Inv X pins σ H s)(h:KD X.prog X.w X.K a kvs): ∃ vs,KV kvs vs/\s.heap.DictOf (bz X.prog X.w) a vs:=by
 obtain⟨_,o,es,ep,vs,h1,h2,h3,h4,h5,h6,h7⟩:=h;exact⟨vs,h7,o,es,ep,I.ib a o h1,h2,h3,h4,h5,h6⟩
def Hh(kvs:List (Key × V))(ty:TE):TE:=fun σ H Q=>ty σ H λy H2=> ∃ k v,y=kV k/\fk kvs k=TK v/\Q v H2
def Nw(kvs:List (Key × V))(ty:TE):TE:=fun σ H Q=>ty σ H λy H2=> ∃ k,y=kV k/\Q (.bl (fk kvs k).isSome) H2
def wY(kvs:List (Key × V))(ty:TE):TE:=fun σ H Q=>ty σ H λy H2=> ∃ k,y=kV k/\Q (.bl (!(fk kvs k).isSome)) H2
section
variable{X:Cx}{o i:UR}{pos:Pos}{ty:TE}{a:Uj}{kvs:List (Key × V)}
theorem Eu(hk:KD X.prog X.w X.K a kvs)(ho:PE X o (tC (.ref a)))(hi:PE X i ty)(hs:GI i):PE X (.Subscript o i pos) (Hh kvs ty):=by
 intro pins s σ H Q I h;refine Gp Yg.lookup hs (jg (ho pins s σ H (λx H1=>x= .ref a/\H1=H) I ⟨rfl,rfl⟩) λu s1 x H1 I1 rx ⟨ex,eH⟩=>?_);subst ex eH;obtain rfl:u=Uv a:=rx;refine jg (hi pins s1 σ H1 _ I1 h) λiv s2 y H2 I2 ry ⟨k,v,ey,l,q2⟩=>?_;subst ey;obtain⟨vs,rel,dd⟩:=I2.kd hk;obtain⟨w',hw,rw'⟩:=gL.some_of (v:=v) (o:=YY vs k) (by rw[<- l];exact rel.val k);exact⟨dd.typeIs,wpAny_getItem_of (lI ry) dd.mapOf hw ⟨v,H2,I2.tok _,rw',q2⟩⟩
theorem Mp(hk:KD X.prog X.w X.K a kvs)(hi:PE X i ty)(ho:PE X o (tC (.ref a))):PC X .In i o (Nw kvs ty):=by
 intro pins s σ H Q I h;refine eF (hi pins s σ H _ I h) λiv s1 ⟨y,H1,I1,ry,k,ey,q⟩=>eF (ho pins s1 σ H1 (λx H2=>x= .ref a/\H2=H1) I1 ⟨rfl,rfl⟩) λu s2 ⟨x,H2,I2,rx,ex,eH⟩=>?_;subst ex eH ey;obtain rfl:u=Uv a:=rx;obtain⟨vs,rel,dd⟩:=I2.kd hk;refine wpAny_in_of (lI ry) hk.1 dd.mapOf ?_;rw[<- (rel.val k).gu];exact⟨.bl (fk kvs k).isSome,H2,I2.tok _,rfl,q⟩
theorem DG(hk:KD X.prog X.w X.K a kvs)(ho:QE X o (tC (.ref a)))(hi:QE X i ty)(hs:GI i):QE X (.Subscript o i pos) (Hh kvs ty):=⟨Eu hk ho.h hi.h hs⟩
theorem L4(hk:KD X.prog X.w X.K a kvs)(hi:QE X i ty)(ho:QE X o (tC (.ref a)))(hm:U7 .In o=false:=by rfl):QE X (.Compare i [.In] [o] pos) (Nw kvs ty):=⟨Co (Mp hk hi.h ho.h) hm⟩
end
noncomputable def PU(w:U6)(p:Str × Tok × TY):DictEntry:={ hash:=UT w.params p.1,key:= .str p.1 p.2.1,val:=p.2.2}
theorem Oa{K}{ls:List (Str × Tok × TY)}{kvs:List (Key × V)}(hl:K.lookup a=TK { cls:= .type "dict",data:= .dict (ls.map (PU w)).toArray ep})(ha:(a == VX)=false)
  (hn:(ls.map λp=>(Xv p.1:Key)).Nodup) (hk:KV kvs (ls.map λp=>((Xv p.1),p.2.2))):KD P w K a kvs:=by
 refine⟨ha,_,_,ep,ls.map λp=>((Xv p.1),p.2.2),hl,⟨rfl,rfl,rfl⟩,rfl,?_,?_,by rw[VB];exact hn,hk⟩
 . intro e he;have he':=List.mem_toArray.mp he;obtain⟨p,_,rfl⟩:=Vb.mp he';exact⟨.inr p.1,kP p.1 p.2.1,rfl⟩
 . clear hl hn hk
   induction ls with
   | nil=>exact .nil
   | cons p r ih=>exact .cons (kP p.1 p.2.1) rfl ih
theorem lV: ∀{us},Vals (bs.map V.bl) us->LSm.BoolsAre us bs:=by
 induction bs with
 | nil=>intro us h;cases h;exact .nil
 | cons b r ih =>
  intro us h
  cases h with
  | cons hx ht =>
   cases(show _=Xr b from hx)
   exact .cons _ (ih ht)
theorem p8{s:Ua}{h':Vx}(hk: ∀ b x,b ∉ [s.heap.objs.size]->(s.heap.push o).get? b=TK x->h'.get? b=TK x): ∀ b x,s.heap.get? b=TK x->h'.get? b=TK x :=
 λb x e=>hk b x (by intro z;rw[UD.mp z] at e;exact absurd (Uk e) (U5 _)) (T1 _ e)
section
variable{X:Cx}
def Rj(K:TQ):List V->Hp->VK->Prop:=λxs H Q=> ∃(p:Uj)(bs:List Bool),xs=[.ref p]/\fA K H p (bs.map V.bl)/\Q (.bl (bs.all id)) H
def R8(K:TQ):List V->Hp->VK->Prop:=λxs H Q=> ∃(p:Uj)(bs:List Bool),xs=[.ref p]/\fA K H p (bs.map V.bl)/\Q (.bl (bs.any id)) H
theorem Gs(hc:X.calm=true):bj X (.builtin "all") (Rj X.K):=by
 intro pins s σ H xs us Q I r h;obtain⟨p,bs,rfl,hS,q⟩:=h;obtain⟨u,rfl,ru⟩:=vals1 r;cases(show u=Uv p from ru);obtain⟨ak,hv,pl,hz⟩:=I.list hS;have hl:=pl.isList;have hb:=lV hv;have hlt:p < s.heap.objs.size:=by obtain⟨_,e,_⟩:=hl;exact Uk e
 refine call_all_walk (Yo (items:=ak.toArray) hl ?_);refine⟨s.heap.objs.size,[s.heap.objs.size,p],[s.heap.objs.size],ak.toArray.size,_,_,λi=>(bs[i]?).getD true,rfl,Walks.list (A:=X.A.in1) (I.ok.hd hc) _ p (UN hlt) ak.toArray,⟨⟨_,Up _ rfl,rfl,rfl⟩,hl.push _⟩,?_,?_⟩
 . intro i v s' Q' E' hP hQ;obtain⟨b,e,rfl⟩:=hb.get i v (by simpa using hP);simp only[e] at hQ;exact Vh hQ
 . intro h' tk hk;rw[show((VY ak.toArray.size).all λi=>(bs[i]?).getD true)=bs.all id by rw[Ux,hb.length];exact LSm.range_all bs];exact⟨.bl (bs.all id),H,I.kept (p8 hk),rfl,q⟩
theorem callAny(hc:X.calm=true):bj X (.builtin "any") (R8 X.K):=by
 intro pins s σ H xs us Q I r h;obtain⟨p,bs,rfl,hS,q⟩:=h;obtain⟨u,rfl,ru⟩:=vals1 r;cases(show u=Uv p from ru);obtain⟨ak,hv,pl,hz⟩:=I.list hS;have hl:=pl.isList;have hb:=lV hv;have hlt:p < s.heap.objs.size:=by obtain⟨_,e,_⟩:=hl;exact Uk e
 refine call_any_walk (Yo (items:=ak.toArray) hl ?_);refine⟨s.heap.objs.size,[s.heap.objs.size,p],[s.heap.objs.size],ak.toArray.size,_,_,λi=>(bs[i]?).getD false,rfl,Walks.list (A:=X.A.in1) (I.ok.hd hc) _ p (UN hlt) ak.toArray,⟨⟨_,Up _ rfl,rfl,rfl⟩,hl.push _⟩,?_,?_⟩
 . intro i v s' Q' E' hP hQ;obtain⟨b,e,rfl⟩:=hb.get i v (by simpa using hP);simp only[Option.getD_some,e] at hQ;exact Vh hQ
 . intro h' tk hk;rw[show((VY ak.toArray.size).any λi=>(bs[i]?).getD false)=bs.any id by rw[Ux,hb.length];exact LSm.range_any bs];exact⟨.bl (bs.any id),H,I.kept (p8 hk),rfl,q⟩
end
noncomputable def Q3(x:Str):It:=⟨λi _=>i < x.cps.size,λi H v H'=>H'=H∧ ∃ c,x.cps[i]?=TK c∧v= .str ⟨#[c]⟩,λi _=>i=x.cps.size⟩
theorem um{K} x t it (hty:["enumerate", "zip", "dict_itemiterator", "dict_reverseitemiterator", "odict_iterator", "itertools.zip_longest", "itertools.pairwise"].contains ty=false)
  (W: ∀ A ,A.handled=TL->Walks P w A it [it] [it] x.cps.size (SignAt x) (λi h=>h.IsStrIter it ty x t i)) (S: ∀ A i s Q E,s.heap.IsStrIter it ty x t i->Q (.ref it) s->Ur (Uu P w) A (Z9 (.ref it)) Q E s) :
  Turn P w K tg (Q3 x) [it] it (λi h=>h.IsStrIter it ty x t i) where
 mem:=by simp
 obj:=λi h st b hb=>by
  have e:b=it:=by simpa using hb
  subst e;obtain⟨o,e,c,d⟩:=st;exact⟨o,e,λv z=>by simp_all⟩
 keep:=λi h h' st k=>by obtain⟨o,e,r⟩:=st;exact⟨o,k it (by simp) o e,r⟩
 item:=by
  intro X hP hw hK hc i pins s σ H E I hf st hg;subst hP hw hK;obtain⟨f0,f1,f2,f3,f4,f5⟩:=hf it (by simp);refine(W X.A (I.ok.hd hc)).item i s _ _ hg st λv h' tk hv st' hk=>?_;obtain⟨c,u,hx,rfl⟩:=hv;have I1:=I.turned (t':=tk) (λb o hb e=>hk b o (by simpa using hb) e) f0 f1 f3 f4 f5;obtain⟨o,e,cc,d⟩:=id st';exact⟨_,rfl,xr (s:={ s with heap:=h',toks:=tk}) e cc d hty ⟨.str ⟨#[c]⟩,H,I1,⟨_,rfl⟩,⟨rfl,c,hx,rfl⟩,st',λb hb=>(hf b hb).1⟩⟩
 done:=by
  intro X hP hw hK hc i pins s σ H E I hf st hg;subst hP hw hK;obtain⟨f0,f1,f2,f3,f4,f5⟩:=hf it (by simp);have hi:=hg;subst hi;exact(W X.A (I.ok.hd hc)).done s _ _ st λh' tk hk=>⟨rfl,I.turned (t':=tk) (λb o hb e=>hk b o (by simpa using hb) e) f0 f1 f3 f4 f5⟩
 self:=λA i s Q E st h=>S A i s Q E st h
theorem jD{x:Str}{k:Nat}{g:TG}{tt:TT}{te:TE}[Hq g][HB tt][G7 te]{σ :St}{H:Hp}{Q:VK}(Pv:Nat->List V->Hp->Prop)(h0:Pv 0 [] H)(hl: ∀ i ys H,i<=x.cps.size->Pv i ys H->ys.length<=i)(hz:x.cps.size<=Ub)
  (hs: ∀ i c ys H,x.cps[i]?=TK c->Pv i ys H->g (.str ⟨#[c]⟩) (σ ++Ue k TL) H fun σ2 H2=>tt σ2 H2 λb H3=>if b=true then te σ2 H3 λy H4=>Pv (i+1) (ys++[y]) H4 else Pv (i+1) ys H3)
  (hd: ∀ ys H,Pv x.cps.size ys H-> ∀ p,H p=TL->Q (.ref p) (upd H p (.lst ys))):Tp k g tt te σ Q (Q3 x) H:=by
 refine⟨λi m ys H=>m=x.cps.size - i/\i<=x.cps.size/\Pv i ys H,⟨x.cps.size,by simp,Vp _,h0⟩,?_⟩;rintro i m ys H ⟨rfl,hi,p⟩;have hy:=hl i ys H hi p;by_cases hlt:i < x.cps.size
 . refine .inr ⟨hlt,by omega,λv H' y=>?_⟩;obtain⟨e,c,hc,rfl⟩:=y;subst e;refine Hq.m (g:=g) _ _ _ _ _ (fun σ2 H2 z=>HB.m (t:=tt) _ _ _ _ (λb H3 z=>?_) z) (hs i c ys _ hc p);cases b with
   | true =>
    exact G7.m (t:=te) _ _ _ _ (λv H4 w=>⟨x.cps.size - (i+1),by omega,rfl,hlt,w⟩) z
   | false =>
    exact⟨x.cps.size - (i+1),by omega,rfl,hlt,z⟩
 . have e:i=x.cps.size:=by omega
   subst e;exact .inl ⟨rfl,hd ys H p⟩
theorem rQ(hg:Gl X x)(hm:X.mg x=TK (.ref a))(hd:(x == ("__debug__"))=false:=by decide):QE X (.Name x pos) (tC (.ref a)):=⟨wV hg hm rfl hd⟩
theorem pF l o b u :
  Meets (Xl.«dict.__eq__» ⟨[.ref l,.str b u],[]⟩) (λ_ R s=>s.heap.get? l=TK o/\R (.ok (.ret .notImplemented)) s) :=
 .of_wp λprog w A R s h=>by
  obtain⟨hl,h⟩:=h;have f1:=ZC;wp_walk;exact⟨_,rfl,h⟩
theorem rX b u l c es ep dd sl :
  Meets (Xl.«str.__eq__» ⟨[.str b u,.ref l],[]⟩) (λ_ R s=>s.heap.get? l=TK { cls:=c,dict:=dd,data:= .dict es ep,slots:=sl}/\R (.ok (.ret .notImplemented)) s) :=
 .of_wp λprog w A R s h=>by obtain⟨hl,h⟩:=h;wp_walk using Vo hl,WO hl;exact⟨_,rfl,h⟩
theorem uH b u (hl:s.heap.get? l=TK o) (hx:o.ExactDict) (hd:o.data= .dict es ep) (hu:A.units < X3):SeqAt.RcAt A s (.ref l) (.str b u) false:=λprog w E Q h=>by
 obtain⟨cls,dd,data,sl⟩:=o;have hc:=hx.1;subst hc hd;exact SeqAt.rc_eq_decline_or (k:=false) ⟨_,hl,rfl⟩ (Xt s b u) (by decide) ZC ZD Yu
  (λ_ hq=>VS ZD ⟨_,hl,rfl⟩ PySem.F.entry_dict_eq (PySem.F.args_dict_eq_2 _ _) (pF l _ b u) ⟨hl,hq⟩)
  (λ_ hq=>VS Yu (Xt s b u) PySem.F.entry_str_eq (PySem.F.args_str_eq_2 _ _) (rX b u l (.type "dict") es ep dd sl) ⟨hl,hq⟩)
  (λ_ z=>aaN (show isSame (.ref l) (.str b u)=pure false from rfl) z) (.inr hu) h
noncomputable def Pc(K:TQ):R2:=λx y H Q=> ∃ p z,x= .ref p/\y= .str z/\((∃ xs,fA K H p xs)\/(∃ xs,fK K H p xs)\/ ∃ kvs,H p=TK (.dK kvs))/\Q (.bl false) H
def NS(K:TQ):V->Option Int->Option Int->Hp->VK->Prop:=λx lo hi H Q=> ∃ a xs,x= .ref a/\fK K H a xs/\(HT.dm xs.length 0 lo=0/\HT.dm xs.length xs.length hi=xs.length)/\Q (.ref a) H
noncomputable def Ht(K:TQ):R2:=λx y H Q=> ∃ a b ys,x= .ref a/\y= .ref b/\fK K H a []/\fK K H b ys/\Q (.ref b) H
noncomputable def HL:R2:=λx y H Q=> ∃ a b,x= .str a/\y= .str b/\a.length+b.length<=Ub/\Q (.str (a++b)) H
theorem kI:fillsNumberSlot (.type "tuple") "mul" =pure false :=
 PySem.fillsNumberSlot_seq (id:= "tuple.__mul__") (r:=TK (.builtin "tuple.__rmul__")) V9.lookup (by rfl) YH.lookup (by rfl)
theorem sr:seqRepeat? (.type "tuple")=pure (TK (.builtin "tuple.__mul__")):=by
 unfold seqRepeat?;rw[aaG (T:= "tuple") (name:= "__mul__") (id:= "tuple.__mul__") V9.lookup (by rfl),aaG (T:= "tuple") (name:= "__rmul__") (id:= "tuple.__rmul__") YH.lookup (by rfl)];rfl
theorem ny a t l items n dd sl :
  Meets (Xl.«int.__rmul__» ⟨[.int a t,.ref l],[]⟩) (λ_ R s=>s.heap.get? l=TK { cls:= .type "tuple",dict:=dd,data:= .seq items n,slots:=sl}/\R (.ok (.ret Value.notImplemented)) s) :=
 .of_wp λprog w A R s h=>by obtain⟨hl,h⟩:=h;wp_walk using Vo hl,WO hl;exact⟨_,rfl,h⟩
theorem pW{prog:UP}{w:U6}{A:Vk}{E:TY->Ua->Prop}{s:Ua}{t sl:Uj}{items:Array TY}{vl vu:TY}{lo hi:Option Int}{Q:TY->Ua->Prop}(ht:IsTup s.heap t items)(hs:s.heap.IsSliceOf sl vl vu .none)(pl:YT vl lo)(pu:YT vu hi)
  (hw:HT.dm items.size 0 lo=0/\HT.dm items.size items.size hi=items.size) (h:Q (.ref t) s):Ur (Uu prog w) A (XQ (.ref t) (.ref sl)) Q E s:=by
 obtain⟨os,hos,hcs,hds⟩:=id hs;have hTs:s.TypeIs (.ref sl) "slice" :=⟨os,hos,hcs⟩
 unfold XQ
 try with_reducible refine VP ?_
 refine TM (wpAny_sequenceKey ht.typeIs (by decide) ?_);refine TM (Ve (name:=TU "__getitem__") ht.typeIs U3
  (V0 U3 ht.typeIs ZQ ?_ (aac _ _)))
 show Ur _ _ (X6 (.ref t) >>= _) _ _ s;refine TM (tupleItemsOf_ ht ?_);refine TM (XR hTs ?_);refine TM (HT.gf hs pl pu ?_);show Ur _ _ (if (((HT.dm items.size 0 lo):Int) == 0&&(1) == 1&&(HT.dm items.size items.size hi - HT.dm items.size 0 lo) == items.size)=true then _ else _) _ _ s;rw[if_pos (by simp_all)];refine TM (m:=Builtin.Tuple.tupleIsExact _) (TM (XR ht.typeIs (Ud ?_)));exact TM (Y6 (Ud ⟨_,rfl,Ud h⟩))
section
variable{X:Cx}
theorem EF(hu:X.A.units < X3):cT X (UJ .Eq) (Pc X.K):=by
 intro pins s σ H x y v u Q I rx ry h;obtain⟨p,z,rfl,rfl,hp,hQ⟩:=h;cases(show v=Uv p from rx);obtain⟨t,rfl⟩:=ry;have fin:EP X pins σ Q (.bool false) s:=⟨.bl false,H,I,rfl,hQ⟩
 rcases hp with⟨xs,hp⟩ | ⟨xs,hp⟩ | ⟨kvs,hp⟩
 . obtain⟨ak,hv,pl,hz⟩:=I.list hp;exact SeqAt.RcAt.list_str z t pl.isList hu _ _ _ _ fin
 . obtain⟨ak,hv,pl,hz⟩:=I.tuple hp;exact SeqAt.RcAt.tuple_str z t pl hu _ _ _ _ fin
 . obtain⟨_,_,vs,_,o,es,ep,e,hx,hd,_⟩:=tO I.bx hp;exact uH z t e hx hd hu _ _ _ _ fin
theorem Fo:C5 X (NS X.K):=by
 intro pins s σ H x v vl vu lo hi sl Q I rx hs pl pu h;obtain⟨a,xs,rfl,hx,hw,q⟩:=h;cases rx;obtain⟨ak,r,ht,hz⟩:=I.tuple hx;have hlen:ak.toArray.size=xs.length:=by exact r.length.symm
 refine⟨"tuple",_,U3.lookup,ht.typeIs,?_⟩;exact pW ht hs pl pu (by rw[hlen];exact hw) ⟨.ref a,H,I,rfl,q⟩
theorem ED:cT X (VC .Add) (Ht X.K):=by
 intro pins s σ H x y v u Q I rx ry h;obtain⟨a,b,ys,rfl,rfl,ha,hb,q⟩:=h;cases(show v=Uv a from rx);cases(show u=Uv b from ry);obtain⟨ak,r1,p1,_⟩:=I.tuple ha;obtain⟨its2,r2,p2,_⟩:=I.tuple hb;have e1:ak=[]:=by cases r1;rfl
 subst e1;obtain⟨⟨cls,dd,data,sl⟩,ho,hc,n,hd⟩:=id p1;obtain⟨⟨cls2,dd2,data2,sl2⟩,ho2,hc2,n2,hd2⟩:=id p2;simp only at hc hd hc2 hd2;subst hc hd hc2 hd2;exact aaq ⟨_,ho,rfl⟩ ⟨_,ho2,rfl⟩ YD ZY Xj Xc (WX _ _)
  (tuple_addW0 a b _ _ n n2 dd dd2 sl sl2 rfl) ⟨ho,ho2,⟨.ref b,H,I,rfl,q⟩⟩
theorem F4:cT X (VC .Add) HL:=by
 intro pins s σ H x y v u Q I rx ry h;obtain⟨a,b,rfl,rfl,hz,q⟩:=h;obtain⟨t,rfl⟩:=rx;obtain⟨t',rfl⟩:=ry;exact PyProof.Rows.add_str (λt' tk=>⟨.str (a++b),H,I.tok _,⟨_,rfl⟩,q⟩) hz
theorem ML:cT X (VC .Add) (λx y H Q=>(Cp λi j=> .int (i+j)) x y H Q\/(NG x y H Q\/(Hj X.K x y H Q\/(Ht X.K x y H Q\/HL x y H Q)))):=KO.or (Mq.or (GX.or (ED.or F4)))
theorem Tu:C5 X (λx lo hi H Q=>Ol X.K x lo hi H Q\/(OP X.K x lo hi H Q\/NS X.K x lo hi H Q)):=Fi.or (Kb.or Fo)
end
section
variable{X:Cx}{o i:UR}{pos:Pos}{ty:TE}{a:Uj}{kvs:List (Key × V)}
theorem xH(hk:KD X.prog X.w X.K a kvs)(hi:PE X i ty)(ho:PE X o (tC (.ref a))):PC X .NotIn i o (wY kvs ty):=by
 intro pins s σ H Q I h;refine eF (hi pins s σ H _ I h) λiv s1 ⟨y,H1,I1,ry,k,ey,q⟩=>eF (ho pins s1 σ H1 (λx H2=>x= .ref a/\H2=H1) I1 ⟨rfl,rfl⟩) λu s2 ⟨x,H2,I2,rx,ex,eH⟩=>?_;subst ex eH ey;obtain rfl:u=Uv a:=rx;obtain⟨vs,rel,dd⟩:=I2.kd hk;refine wpAny_notIn_of (lI ry) hk.1 dd.mapOf ?_;rw[<- (rel.val k).gu];exact⟨.bl (!(fk kvs k).isSome),H2,I2.tok _,rfl,q⟩
theorem yp(hk:KD X.prog X.w X.K a kvs)(hi:QE X i ty)(ho:QE X o (tC (.ref a)))(hm:U7 .NotIn o=false:=by rfl):QT X (.Compare i [.NotIn] [o] pos) (tB (wY kvs ty)):=⟨Ay (xH hk hi.h ho.h) hm⟩
end
noncomputable def Sw{α}(c:Nat->Nat->Bool):KasT α -> α
 | .ret a=>a
 | .ask i j k=>Sw c (k (c i j))
noncomputable def Si{α}(n:Nat)(c:Nat->Nat->Bool):KasT α ->Bool
 | .ret _=>true
 | .ask i j k=>decide (i < n)&&decide (j < n)&& !decide (i=j)&&Si n c (k (c i j))
def Of{α} n (c:Nat->Nat->Bool) (t:KasT α) (Q: α ->Prop):=Si n c t=true/\Q (Sw c t)
theorem Of.ret{α :Type}{n:Nat}{c:Nat->Nat->Bool}{a: α}{Q: α ->Prop}(h:Q a):Of n c (.ret a) Q:=⟨rfl,h⟩
theorem Of.ask{α :Type}{n:Nat}{c:Nat->Nat->Bool}{i j:Nat}{k:Bool->KasT α}{Q: α ->Prop}(hi:i < n)(hj:j < n)(hij:i≠j)(h:Of n c (k (c i j)) Q):Of n c (.ask i j k) Q :=
 ⟨by simp only[Si,hi,hj,hij,h.1,decide_true,decide_false,Bool.not_false,WK],h.2⟩
structure AX(n:Nat)(p:Array Nat):Prop where
 perm:p.toList.Perm (VY n)
theorem AX.size(h:AX n p):p.size=n:=by simpa using h.perm.length_eq
theorem AX.of(h:AX n p)(pm:q.Perm p):AX n q:=⟨(Array.perm_iff_toList_perm.mp pm).trans h.perm⟩
section
variable{n:Nat}{r:Nat->Nat}
noncomputable def rk(r:Nat->Nat)(p:Array Nat) i:=r (p.getD i 0)
end
def TH(a b:Str):=a.cps.toList < b.cps.toList
instance (a b:Str):Decidable (TH a b):=inferInstanceAs (Decidable (a.cps.toList < b.cps.toList))
section
variable{prog:UP}{w:U6}{A:Vk}{E:TY->Ua->Prop}{s:Ua}
theorem iT{vs:List TY}(h:vs.length < 64):vs.length<=Ub:=UQ (YO h) (by decide)
end
def uq(H:Hp)(y:V)(q:Str × Int):= ∃ b,y= .ref b/\H b=TK (.tup [.str q.1,.int q.2])
theorem uq.v(h:uq H y q):Qv H y (.inr q.1,.int q.2):=h
theorem uq.same{H H':Hp}{y:V}{q:Str × Int}(h:uq H y q)(s:jH H H'):uq H' y q:=let ⟨b,e,h⟩:=h;⟨b,e,s _ _ h⟩
def HA(K:TQ):List V->Hp->VK->Prop:=λxs H Q=> ∃ x p Ts T b,xs=[x,.ref p]/\H p=TK (.tup (List.map V.ty Ts))/\jb K H x (.type T)/\ZE K (.type T) (List.map Wb Ts)=TK b/\Q (.bl b) H
theorem wZ: ∀{Ts:List String}{us},Vals (Ts.map V.ty) us->us=Ts.map Wb
 | [],_,.nil=>rfl
 | T::r,u::us,.cons h t=>by rw[wZ t,show u=Wb T from h];rfl
section
variable{X:Cx}
theorem sv:bj X (.builtin "isinstance") (HA X.K):=by
 intro pins s σ H xs us Q I r h;obtain⟨x,p,Ts,T,b,rfl,hp,ty,e,q⟩:=h;obtain⟨u,c,rfl,ru,rc⟩:=vals2 r;cases(show c=Uv p from rc);obtain⟨_,ak,hv,⟨oc,dd,dat,sl⟩,e1,e2,n,e3,_⟩:=(show bo X.prog X.w H s.heap p (.tup (Ts.map V.ty)) from I.bx p _ hp)
 simp only at e2 e3;subst e2 e3;obtain rfl:=wZ hv;have fin: ∀ tk,EP X pins σ Q (.bool b) { s with toks:=tk}:=λtk=>⟨.bl b,H,I.tok tk,rfl,q⟩
 generalize hT:Wb T=t at ty e;cases ty with
 | non=>cases(show u=Wx from ru);exact XS kitx_none I.ib trivial e1 e nofun fin
 | bl y=>cases(show u=Xr y from ru);exact XS kitx_bool I.ib trivial e1 e nofun fin
 | int i=>obtain⟨_,rfl⟩:=(show ∃ t,u=XU i t from ru);exact XS kitx_int I.ib trivial e1 e nofun fin
 | str y=>obtain⟨_,rfl⟩:=(show ∃ t,u=XW y t from ru);exact XS kitx_str I.ib trivial e1 e nofun fin
 | flt y=>obtain⟨_,rfl⟩:=(show ∃ t,u=Zr y t from ru);exact XS aaW I.ib trivial e1 e nofun fin
 | @lst a xs ea =>
  cases(show u=Uv a from ru)
  obtain⟨_,_,_,_,g⟩:=(show bo X.prog X.w H s.heap a (.lst xs) from I.bx a _ ea)
  exact XS Yr I.ib ⟨_,g,rfl⟩ e1 e nofun fin
 | @je a ob xs ea =>
  cases(show u=Uv a from ru)
  obtain⟨_,_,_,_,_,g⟩:=(show bo X.prog X.w H s.heap a (.je ob (.lst xs)) from I.bx a _ ea)
  exact XS Yr I.ib ⟨_,g,rfl⟩ e1 e nofun fin
 | @tup a xs ea =>
  cases(show u=Uv a from ru)
  obtain⟨_,_,_,o,g1,g2,_⟩:=(show bo X.prog X.w H s.heap a (.tup xs) from I.bx a _ ea)
  exact XS aaX I.ib ⟨o,g1,g2⟩ e1 e nofun fin
 | @dK a kvs ea =>
  cases(show u=Uv a from ru)
  obtain⟨_,_,_,_,o,_,_,g1,g2,_⟩:=(show bo X.prog X.w H s.heap a (.dK kvs) from I.bx a _ ea)
  exact XS Ys I.ib ⟨o,g1,g2.1⟩ e1 e nofun fin
 | @dT a kvs ea =>
  cases(show u=Uv a from ru)
  obtain⟨_,_,_,_,o,_,_,g1,g2,_⟩:=(show bo X.prog X.w H s.heap a (.dT kvs) from I.bx a _ ea)
  exact XS Ys I.ib ⟨o,g1,g2.1⟩ e1 e nofun fin
 | ins=>cases hT
theorem zW:bj X (.builtin "isinstance") (λxs H Q=>OH X.K xs H Q\/HA X.K xs H Q):=Dw.or sv
end
section
variable{prog:UP}{w:U6}{A:Vk}{E:TY->Ua->Prop}{s:Ua}
theorem Nc[Decidable c](hc: ¬ c)(h:Ur M A m' Q E s):Ur M A (if c then m else m') Q E s:=by rw[if_neg hc];exact h
theorem jt{it t:Uj}{i:Nat}{items:Array TY}{x:TY}{Q:TY->Ua->Prop}(hit:s.heap.IsTupleIter it t i)(ht:s.heap.IsTuple t items)(hx:items[i]?=TK x)
  (q: ∀ h',h'.IsTupleIter it t (i+1)->Xg it s.heap h'->Q x { s with heap:=h'}):Ur (Uu prog w) A (UM (.ref it)) Q E s:=by
 obtain⟨oi,g1,c1,d1⟩:=id hit;obtain⟨ot,g2,_,k,d2⟩:=id ht;have new:(s.heap.update it (Obj.mapFields (·.setIfInBounds 1 (rawInt ((i:Int)+1))))).IsTupleIter it t (i+1):=⟨_,We _ g1 (Obj.isFreed_of_fields (aae d1 _)),(Obj.cls_mapFields ..).trans c1,(aae d1 _).trans (by rfl)⟩
 refine TM (Ve (name:=TU "__next__") hit.typeIs VT (V0 VT hit.typeIs Xf ?_ (W8 (.ref it))));refine TM (m:=XN (.ref it) 0) (U4 g1 d1 (x:= .ref t) rfl (Nc (λz=>by cases z) (TM (m:=XN (.ref it) 1) (U4 g1 d1 (x:= .int i 0) rfl (TM (m:=seqItems? (.ref t)) (VU g2 d2 ?_))))));dsimp only;rw[VL,hx];exact TM (wpAny_setField g1 d1 (by simp) (Ud ⟨x,rfl,Ud (q _ new (ZS ..))⟩))
theorem qr{it t:Uj}{i:Nat}{items:Array TY}{Q:TY->Ua->Prop}(hh:A.handled=TL)(hit:s.heap.IsTupleIter it t i)(ht:s.heap.IsTuple t items)(hx:items[i]?=TL)
  (q: ∀ h' e,Heap.ExtBut it s.heap h'->(∃ o,h'.get? e=TK o/\o.cls= .type "StopIteration")->E (.ref e) { s with heap:=h'}):Ur (Uu prog w) A (UM (.ref it)) Q E s:=by
 obtain⟨oi,g1,c1,d1⟩:=id hit;obtain⟨ot,g2,_,k,d2⟩:=id ht;refine TM (Ve (name:=TU "__next__") hit.typeIs VT (V0 VT hit.typeIs Xf ?_ (W8 (.ref it))));refine TM (m:=XN (.ref it) 0) (U4 g1 d1 (x:= .ref t) rfl (Nc (λz=>by cases z) (TM (m:=XN (.ref it) 1) (U4 g1 d1 (x:= .int i 0) rfl (TM (m:=seqItems? (.ref t)) (VU g2 d2 ?_))))));dsimp only;rw[VL,hx];refine TM (Y6 (TM (wpAny_setField g1 d1 (by simp) (TM (m:=newExc (.type "StopIteration") []) (TM (m:=newTuple []) (Vi ?_ (by size_fits)))))));refine TM (m:=firstArgMember _ _) (aaN (a:=Wx) (by rfl) (Vi ?_ (by size_fits)));refine TM (wpAny_handled ?_);rw[show A.in1.handled=TL from hh];exact TM (Ud (wpAny_throw (q _ _ (((ZS ..).extBut.push _).push _) ⟨_,Up _ rfl,rfl⟩)))
structure ur(h:Vx)(z TI TO i1 i2 l1 l2:Uj)(k:Nat):Prop where
 zd:ZZ h z TI TO .none
 ak:W9 h TI (.ref i1) (.ref i2)
 old: ∃ a b,W9 h TO a b
 one:h.IsTupleIter i1 l1 k
 two:h.IsTupleIter i2 l2 k
theorem yi{z TI TO i1 i2 l1 l2:Uj}{k:Nat}{xs ys:Array TY}{x y:TY}{Q:TY->Ua->Prop}(D:WQ z TI TO i1 i2 l1 l2)(Z:ur s.heap z TI TO i1 i2 l1 l2 k)(t1:s.heap.IsTuple l1 xs)(t2:s.heap.IsTuple l2 ys)(hx:xs[k]?=TK x)(hy:ys[k]?=TK y)
  (q: ∀ h',ZZ h' z TI TO (rawInt s.heap.objs.size)->W9 h' TI (.ref i1) (.ref i2)->W9 h' TO x y->h'.IsTupleIter i1 l1 (k+1)->h'.IsTupleIter i2 l2 (k+1)->W9 h' s.heap.objs.size x y ->
   (∀ c o,c≠z->c≠TO->c≠i1->c≠i2->s.heap.get? c=TK o->h'.get? c=TK o)->Q (.ref s.heap.objs.size) { s with heap:=h'}):Ur (Uu prog w) A (Xl.«zip.__next__» ⟨[.ref z],[]⟩) (λr u=> ∃ v,r= .done (.ret v)/\Q v u) E s:=by
 obtain⟨hz,hTI,⟨a,b,hTO⟩,o1,o2⟩:=Z;refine TM (m:=XN (.ref z) 2) (U4 hz rfl (x:= .bool false) rfl ?_);refine TM (m:=XN (.ref z) 3) (U4 hz rfl (x:= .ref TI) rfl (TM (VU hTI rfl ?_)));refine TM (m:=Vj (.ref z)) (TM (m:=XN (.ref z) 0) (U4 hz rfl (x:= .none) rfl (Ud (QJ rfl (TM (Y6 ?_))))));refine TM (m:=XN (.ref z) 4) (U4 hz rfl (x:= .ref TO) rfl (TM (V1 hz (by simp) λu1 z1 b1=>?_)))
 replace z1:=z1
 refine TM ?_;rw[show(#[Uv i1,Uv i2]).toList.zipIdx=[(Uv i1,0),(Uv i2,1)] from rfl,VM];refine TM (TM (Xx (TM (m:=UM (.ref i1)) (jt (o1.at λo e=>b1.extBut _ _ D.i1z e) (t1.at λo e=>b1.extBut _ _ D.l1z e) hx λu2 p1 b2=>Ud ?_))));have T2:=b2.extBut _ _ D.TOi1 (b1.extBut _ _ D.TOz hTO);refine TM (VU T2 rfl (TM (XB T2 λu3 T3 b3=>TM (aaO (Ud ?_)))))
 replace T3:=T3
 have k3: ∀ c o,c≠z->c≠TO->c≠i1->s.heap.get? c=TK o->u3.get? c=TK o:=λc o n1 n2 n3 e=>b3.extBut _ _ n2 (b2.extBut _ _ n3 (b1.extBut _ _ n1 e));dsimp only;rw[VM];refine TM (TM (Xx (TM (m:=UM (.ref i2)) (jt (o2.at λo e=>k3 _ o D.i2z D.TOi2.symm D.i12.symm e) (t2.at λo e=>k3 _ o D.l2z D.l2TO D.l2i1 e) hy λu4 p2 b4=>Ud ?_))));have T4:=b4.extBut _ _ D.TOi2 T3;refine TM (VU T4 rfl (TM (XB T4 λu5 T5 b5=>TM (aaO (Ud ?_)))))
 replace T5:W9 u5 TO x y:=T5
 have k5:=λc o n1 n2 n3 n4 e=>b5.extBut _ _ n2 (b4.extBut _ _ n4 (k3 c o n1 n2 n3 e));have sz:=b5.1.trans (b4.1.trans (b3.1.trans (b2.1.trans b1.1)));have z5:=b5.extBut _ _ D.TOz.symm (b4.extBut _ _ D.i2z.symm (b3.extBut _ _ D.TOz.symm (b2.extBut _ _ D.i1z.symm z1)));have p15:=p1.at λo e=>b5.extBut _ _ D.TOi1.symm (b4.extBut _ _ D.i12 (b3.extBut _ _ D.TOi1.symm e));have p25:=p2.at λo e=>b5.extBut _ _ D.TOi2.symm e;have lz:=Uk z5;dsimp only;rw[List.forIn_nil];refine Ud (TM (VU T5 rfl (TM (wpAny_newTuple ?_ (by show 2<=Ub;decide)))));have z6:ZZ (u5.push { cls:= .type "tuple",data:= .seq #[x,y]}) z TI TO .ellipsis:=T1 _ z5;refine TM (m:=ZT (.ref z) (.ref u5.objs.size)) (TM (V1 z6 (by simp) λu7 z7 b7=>V1 (show ZZ u7 z TI TO (rawInt u5.objs.size) from z7) (by simp) λu8 z8 b8=>Ud ⟨_,rfl,?_⟩));have up: ∀ c o,c≠z->u5.get? c=TK o->u8.get? c=TK o:=λc o n e=>b8.extBut _ _ n (b7.extBut _ _ n (T1 _ e));have T8:=b8.extBut _ _ (VR lz) (b7.extBut _ _ (VR lz) (Up _ rfl))
 replace z8:=z8
 rw[sz] at z8 T8 ⊢;exact q u8 z8 (up _ _ D.TIz (k5 _ _ D.TIz D.TITO D.TIi1 D.TIi2 hTI)) (up _ _ D.TOz T5) (p15.at λo e=>up _ o D.i1z e) (p25.at λo e=>up _ o D.i2z e) T8 λc o n1 n2 n3 n4 e=>up c o n1 (k5 c o n1 n2 n3 n4 e)
theorem Bw{z TI TO i1 i2 l1 l2:Uj}{k:Nat}{xs ys:Array TY}{Q:PySem.Fin->Ua->Prop}(hh:A.handled=TL)(D:WQ z TI TO i1 i2 l1 l2)(Z:ur s.heap z TI TO i1 i2 l1 l2 k)(t1:s.heap.IsTuple l1 xs)(t2:s.heap.IsTuple l2 ys)(he:xs[k]?=TL\/ys[k]?=TL)
  (q: ∀ h' e,(∀ c o,c≠z->c≠TO->c≠i1->c≠i2->s.heap.get? c=TK o->h'.get? c=TK o)->(∃ o,h'.get? e=TK o/\o.cls= .type "StopIteration")->E (.ref e) { s with heap:=h'}):Ur (Uu prog w) A (Xl.«zip.__next__» ⟨[.ref z],[]⟩) Q E s:=by
 obtain⟨hz,hTI,⟨a,b,hTO⟩,o1,o2⟩:=Z;have ap: ∀(h':Vx)(f0:TY)(e:Uj)(o:Obj),ZZ h' z TI TO f0->h'.get? e=TK o->o.cls= .type "StopIteration" ->e≠z:=λh' f0 e o y g c n=>by grind
 refine TM (m:=XN (.ref z) 2) (U4 hz rfl (x:= .bool false) rfl ?_);refine TM (m:=XN (.ref z) 3) (U4 hz rfl (x:= .ref TI) rfl (TM (VU hTI rfl ?_)));refine TM (m:=Vj (.ref z)) (TM (m:=XN (.ref z) 0) (U4 hz rfl (x:= .none) rfl (Ud (QJ rfl (TM (Y6 ?_))))));refine TM (m:=XN (.ref z) 4) (U4 hz rfl (x:= .ref TO) rfl (TM (V1 hz (by simp) λu1 z1 b1=>?_)));refine TM ?_;rw[show(#[Uv i1,Uv i2]).toList.zipIdx=[(Uv i1,0),(Uv i2,1)] from rfl,VM]
 match hx:xs[k]? with
 | none =>
  refine TM (TM (Xx (TM (m:=UM (.ref i1)) (qr hh (o1.at λo e=>b1.extBut _ _ D.i1z e) (t1.at λo e=>b1.extBut _ _ D.l1z e) hx λu2 e b2 g=>?_))))
  obtain⟨oe,g1,g2⟩:=g
  have z2:=b2 _ _ D.i1z.symm z1
  exact V1 z2 (by simp) λu3 _ b3=>q u3 e (λc o n1 _ n3 _ y=>b3.extBut _ _ n1 (b2 _ _ n3 (b1.extBut _ _ n1 y))) ⟨oe,b3.extBut _ _ (ap u2 _ e oe z2 g1 g2) g1,g2⟩
 | some x =>
  have hy:=he.resolve_left (by simp_all)
  refine TM (TM (Xx (TM (m:=UM (.ref i1)) (jt (o1.at λo e=>b1.extBut _ _ D.i1z e) (t1.at λo e=>b1.extBut _ _ D.l1z e) hx λu2 p1 b2=>Ud ?_))))
  have T2:=b2.extBut _ _ D.TOi1 (b1.extBut _ _ D.TOz hTO)
  refine TM (VU T2 rfl (TM (XB T2 λu3 T3 b3=>TM (aaO (Ud ?_)))))
  have k3: ∀ c o,c≠z->c≠TO->c≠i1->s.heap.get? c=TK o->u3.get? c=TK o:=λc o n1 n2 n3 e=>b3.extBut _ _ n2 (b2.extBut _ _ n3 (b1.extBut _ _ n1 e))
  dsimp only
  rw[VM]
  refine TM (TM (Xx (TM (m:=UM (.ref i2)) (qr hh (o2.at λo e=>k3 _ o D.i2z D.TOi2.symm D.i12.symm e) (t2.at λo e=>k3 _ o D.l2z D.l2TO D.l2i1 e) hy λu4 e b4 g=>?_))))
  obtain⟨oe,g1,g2⟩:=g
  have z4:=b4 _ _ D.i2z.symm (b3.extBut _ _ D.TOz.symm (b2.extBut _ _ D.i1z.symm z1))
  exact V1 z4 (by simp) λu5 _ b5=>q u5 e (λc o n1 n2 n3 n4 y=>b5.extBut _ _ n1 (b4 _ _ n4 (k3 c o n1 n2 n3 y))) ⟨oe,b5.extBut _ _ (ap u4 _ e oe z4 g1 g2) g1,g2⟩
theorem oW{z TI TO i1 i2 l1 l2:Uj}{k:Nat}{xs ys:Array TY}{x y:TY}{Q:Option TY->Ua->Prop}(D:WQ z TI TO i1 i2 l1 l2)(Z:ur s.heap z TI TO i1 i2 l1 l2 k)(t1:s.heap.IsTuple l1 xs)(t2:s.heap.IsTuple l2 ys)(hx:xs[k]?=TK x)(hy:ys[k]?=TK y)
  (q: ∀ h',ZZ h' z TI TO (rawInt s.heap.objs.size)->W9 h' TI (.ref i1) (.ref i2)->W9 h' TO x y->h'.IsTupleIter i1 l1 (k+1)->h'.IsTupleIter i2 l2 (k+1)->W9 h' s.heap.objs.size x y ->
   (∀ c o,c≠z->c≠TO->c≠i1->c≠i2->s.heap.get? c=TK o->h'.get? c=TK o)->Q (TK (.ref s.heap.objs.size)) { s with heap:=h'}):Ur (Uu prog w) A (aaB (.ref z)) Q E s :=
 have ty:=⟨_,Z.zd,rfl⟩
 TM (Yv (Ve (name:=TU "__next__") ty Vq (V0 Vq ty WA (yi D Z t1 t2 hx hy λh' a1 a2 a3 a4 a5 a6 a7=>Ud (q h' a1 a2 a3 a4 a5 a6 a7)) (Wu (.ref z)))))
theorem pG{z TI TO i1 i2 l1 l2:Uj}{k:Nat}{xs ys:Array TY}{Q:Option TY->Ua->Prop}(hh:A.handled=TL)(D:WQ z TI TO i1 i2 l1 l2)(Z:ur s.heap z TI TO i1 i2 l1 l2 k)(t1:s.heap.IsTuple l1 xs)(t2:s.heap.IsTuple l2 ys)(he:xs[k]?=TL\/ys[k]?=TL)
  (q: ∀ h',(∀ c o,c≠z->c≠TO->c≠i1->c≠i2->s.heap.get? c=TK o->h'.get? c=TK o)->Q TL { s with heap:=h'}):Ur (Uu prog w) A (aaB (.ref z)) Q E s :=
 have ty:=⟨_,Z.zd,rfl⟩
 TM (Yv (Ve (name:=TU "__next__") ty Vq (V0 Vq ty WA (Bw (A:=A.in1) hh D Z t1 t2 he λh' e a1 g =>
  by obtain⟨o,g1,g2⟩:=g;exact TM (wpAny_isInstance (T:= "StopIteration") (b:=true) ⟨o,g1,g2⟩ isSubtype_stop (Ud (q h' a1)))) (Wu (.ref z)))))
end
end L2
end
section
open PySem PySem.W PyProof.Rows
namespace P3
open PySem PySem.Spec PyProof.Rows L2
inductive PV where
 | non | bl (b:Bool) | int (i:Int) | str (x:Str) | tup (xs:List PV) | ktup (xs:List PV) | ref (n:Nat) | ty (n:String)
mutual
def PV.beq:PV->PV->Bool
 | .non,.non=>true
 | .bl a,.bl b=>decide (a=b)
 | .int a,.int b=>decide (a=b)
 | .str a,.str b=>decide (a=b)
 | .tup a,.tup b=>PV.DJ a b
 | .ktup a,.ktup b=>PV.DJ a b
 | .ref a,.ref b=>decide (a=b)
 | .ty a,.ty b=>decide (a=b)
 | _,_=>false
def PV.DJ:List PV->List PV->Bool
 | [],[]=>true
 | a::x,b::y=>PV.beq a b&&PV.DJ x y
 | _,_=>false
end
theorem fP{p:Prop}(h: ¬ p):false=true↔p:=⟨λe=>(by cases e),λe=>absurd e h⟩
mutual
theorem PV.beq_iff: ∀(a b:PV),PV.beq a b=true↔a=b
 | .non,b=>by cases b<;>first | exact iff_of_true rfl rfl | exact fP (by intro e;cases e)
 | .bl _,b=>by cases b<;>first | exact decide_eq_true_iff.trans (by simp) | exact fP (by intro e;cases e)
 | .int _,b=>by cases b<;>first | exact decide_eq_true_iff.trans (by simp) | exact fP (by intro e;cases e)
 | .str _,b=>by cases b<;>first | exact decide_eq_true_iff.trans (by simp) | exact fP (by intro e;cases e)
 | .ref _,b=>by cases b<;>first | exact decide_eq_true_iff.trans (by simp) | exact fP (by intro e;cases e)
 | .ty _,b=>by cases b<;>first | exact decide_eq_true_iff.trans (by simp) | exact fP (by intro e;cases e)
 | .tup a,b=>by cases b<;>first | exact(PV.oG a _).trans (by simp) | exact fP (by intro e;cases e)
 | .ktup a,b=>by cases b<;>first | exact(PV.oG a _).trans (by simp) | exact fP (by intro e;cases e)
theorem PV.oG: ∀(a b:List PV),PV.DJ a b=true↔a=b
 | [],b=>by cases b<;>first | exact iff_of_true rfl rfl | exact fP (by intro e;cases e)
 | a::x,b=>by
  cases b with
  | nil=>exact fP (by intro e;cases e)
  | cons b y=>exact(Zz.trans (and_congr (PV.beq_iff a b) (PV.oG x y))).trans (by simp)
end
instance:DecidableEq PV:=λa b=>decidable_of_iff _ (PV.beq_iff a b)
mutual
def PV.flat:PV->Bool
 | .ref _=>false
 | .tup xs=>PV.aS xs
 | .ktup xs=>PV.aS xs
 | _=>true
def PV.aS:List PV->Bool
 | []=>true
 | x::r=>x.flat&&PV.aS r
end
mutual
def PV.dH(n:Nat):PV->Bool
 | .ref m=>decide (m < n)
 | .tup xs=>PV.eA n xs
 | .ktup xs=>PV.eA n xs
 | _=>true
def PV.eA(n:Nat):List PV->Bool
 | []=>true
 | x::r=>x.dH n&&PV.eA n r
end
inductive PO where
 | lst (xs:List PV) | jW (xs:List PV) | dct (kvs:List (Key × PV)) | obj (C:Nat) (fs:List (Str × PV))
 deriving DecidableEq
noncomputable def PO.cF:PO->Bool
 | .jW _=>false
 | _=>true
noncomputable def PO.dH(n:Nat):PO->Bool
 | .lst xs=>PV.eA n xs
 | .jW xs=>PV.eA n xs
 | .dct kvs=>PV.eA n (kvs.map (·.2))
 | .obj _ fs=>PV.eA n (fs.map (·.2))
abbrev PH:=List PO
abbrev az:=List (Option PV)
def KT(K:TQ) a (xs:List V):= ∃(o:Obj)(ak:Array TY)(n:Nat),K.lookup a=TK o/\o.cls= .type "tuple" /\o.data= .seq ak n/\ak.size<=Ub/\Vals xs ak.toList
mutual
def rel(K:TQ)(ρ :List Uj)(H:Hp):PV->V->Prop
 | .non,v=>v= .non
 | .bl b,v=>v= .bl b
 | .int i,v=>v= .int i
 | .str x,v=>v= .str x
 | .ty n,v=>v= .ty n
 | .ref n,v=> ∃ a, ρ[n]?=TK a∧v= .ref a
 | .tup xs,v=> ∃ a vs,v= .ref a∧H a=TK (.tup vs)∧ai K ρ H xs vs
 | .ktup xs,v=> ∃ a vs,v= .ref a∧KT K a vs∧ai K ρ H xs vs
def ai(K:TQ)(ρ :List Uj)(H:Hp):List PV->List V->Prop
 | [],vs=>vs=[]
 | x::r,vs=> ∃ v t,vs=v::t∧rel K ρ H x v∧ai K ρ H r t
end
structure Gr (ρ :List Uj) (H:Hp) (ρ':List Uj) (H':Hp):Prop where
 pre: ∀(n:Nat)(a:Uj), ρ[n]?=TK a-> ρ'[n]?=TK a
 tup: ∀ a xs,H a=TK (.tup xs)->H' a=TK (.tup xs)
 je: ∀ a o u,H a=TK (.je o u)->H' a=TK (.je o u)
theorem Gr.refl ρ H:Gr ρ H ρ H:=⟨λ_ _ h=>h,λ_ _ h=>h,λ_ _ _ h=>h⟩
theorem Gr.trans(a:Gr ρ H ρ1 H1)(b:Gr ρ1 H1 ρ2 H2):Gr ρ H ρ2 H2 :=
 ⟨λn x h=>b.pre n x (a.pre n x h),λx xs h=>b.tup x xs (a.tup x xs h),λx o u h=>b.je x o u (a.je x o u h)⟩
section
variable{K:TQ}{ρ ρ':List Uj}{H H':Hp}
theorem Gr.LU(g:Gr ρ H ρ' H')(h:fK K H a xs):fK K H' a xs:=by
 rcases h with(h | ⟨o,h⟩) | h
 . exact .inl (.inl (g.tup _ _ h))
 . exact .inl (.inr ⟨o,g.je _ _ _ h⟩)
 . exact .inr h
theorem Gr.Te(g:Gr ρ H ρ' H')(h:wq K H a xs):wq K H' a xs:=by
 rcases h with⟨o,h⟩ | h
 . exact .inl ⟨o,g.je _ _ _ h⟩
 . exact .inr h
mutual
theorem rel.gr(g:Gr ρ H ρ' H'): ∀(x:PV)(v:V),rel K ρ H x v->rel K ρ' H' x v
 | .non,v,h=>by simpa only[rel] using h
 | .bl _,v,h=>by simpa only[rel] using h
 | .int _,v,h=>by simpa only[rel] using h
 | .str _,v,h=>by simpa only[rel] using h
 | .ty _,v,h=>by simpa only[rel] using h
 | .ref n,v,h=>by
  rw[rel] at h ⊢;obtain⟨a,e,h⟩:=h;exact⟨a,g.pre _ _ e,h⟩
 | .tup xs,v,h=>by
  rw[rel] at h ⊢;obtain⟨a,vs,e,s,r⟩:=h;exact⟨a,vs,e,g.tup _ _ s,ai.gr g xs vs r⟩
 | .ktup xs,v,h=>by
  rw[rel] at h ⊢;obtain⟨a,vs,e,s,r⟩:=h;exact⟨a,vs,e,s,ai.gr g xs vs r⟩
theorem ai.gr(g:Gr ρ H ρ' H'): ∀(xs:List PV)(vs:List V),ai K ρ H xs vs->ai K ρ' H' xs vs
 | [],vs,h=>by simpa only[ai] using h
 | x::r,vs,h=>by
  rw[ai] at h ⊢;obtain⟨v,t,e,h1,h2⟩:=h;exact⟨v,t,e,rel.gr g x v h1,ai.gr g r t h2⟩
end
noncomputable def PV.seq?:PV->Option (List PV)
 | .tup xs=>TK xs
 | .ktup xs=>TK xs
 | _=>TL
theorem rel.seq(e:x.seq?=TK xs)(h:rel K ρ H x v): ∃ a vs,v= .ref a/\fK K H a vs/\ai K ρ H xs vs:=by
 cases x<;>simp only[PV.seq?,reduceCtorEq,Ym] at e
 . subst e;obtain⟨a,vs,e,z,r⟩:=h;exact⟨a,vs,e,.of z,r⟩
 . subst e;obtain⟨a,vs,e,z,r⟩:=h;exact⟨a,vs,e,.inr z,r⟩
theorem bG:ai K ρ H [] vs↔vs=[]:=by rw[ai]
theorem ar:ai K ρ H (x::r) vs↔ ∃ v t,vs=v::t/\rel K ρ H x v/\ai K ρ H r t:=by rw[ai]
theorem ai.len: ∀{xs vs},ai K ρ H xs vs->xs.length=vs.length
 | [],vs,h=>by rw[h];rfl
 | x::r,vs,h=>by
  obtain⟨v,t,rfl,_,h2⟩:=ar.mp h;simp[ai.len h2]
theorem ai.get: ∀{xs vs}{i:Nat}{x},ai K ρ H xs vs->xs[i]?=TK x-> ∃ v,vs[i]?=TK v/\rel K ρ H x v
 | [],vs,i,x,h,e=>by simp at e
 | y::r,vs,i,x,h,e=>by
  obtain⟨v,t,rfl,h1,h2⟩:=ar.mp h;cases i with
  | zero=>simp at e;subst e;exact⟨v,rfl,h1⟩
  | succ i=>simpa using ai.get h2 (by simpa using e)
theorem ai.app: ∀{xs ys vs ws},ai K ρ H xs vs->ai K ρ H ys ws->ai K ρ H (xs++ys) (vs++ws)
 | [],ys,vs,ws,h,h'=>by subst h;exact h'
 | x::r,ys,vs,ws,h,h'=>by
  obtain⟨v,t,rfl,h1,h2⟩:=ar.mp h;exact ar.mpr ⟨v,t++ws,rfl,h1,ai.app h2 h'⟩
theorem ai.one(h:rel K ρ H x v):ai K ρ H [x] [v]:=ar.mpr ⟨v,[],rfl,h,bG.mpr rfl⟩
theorem ai.take: ∀{xs vs} n,ai K ρ H xs vs->ai K ρ H (xs.take n) (vs.take n)
 | xs,vs,0,h=>by rfl
 | [],vs,n+1,h=>by subst h;simp[bG]
 | x::r,vs,n+1,h=>by
  obtain⟨v,t,rfl,h1,h2⟩:=ar.mp h;exact ar.mpr ⟨v,t.take n,rfl,h1,ai.take n h2⟩
theorem ai.drop: ∀{xs vs} n,ai K ρ H xs vs->ai K ρ H (xs.drop n) (vs.drop n)
 | xs,vs,0,h=>h
 | [],vs,n+1,h=>by subst h;simp[bG]
 | x::r,vs,n+1,h=>by
  obtain⟨v,t,rfl,h1,h2⟩:=ar.mp h;exact ai.drop n h2
theorem ai.set: ∀{xs vs x v} i,ai K ρ H xs vs->rel K ρ H x v->ai K ρ H (xs.set i x) (vs.set i v)
 | [],vs,x,v,i,h,hv=>by subst h;simp[bG]
 | y::r,vs,x,v,i,h,hv=>by
  obtain⟨w,t,rfl,h1,h2⟩:=ar.mp h;cases i with
  | zero=>exact ar.mpr ⟨v,t,rfl,hv,h2⟩
  | succ i=>exact ar.mpr ⟨w,t.set i v,rfl,h1,ai.set i h2 hv⟩
theorem ai.ints: ∀(ns:List Int),ai K ρ H (ns.map PV.int) (ns.map V.int)
 | []=>bG.mpr rfl
 | n::r=>ar.mpr ⟨.int n,r.map V.int,rfl,by rw[rel],ai.ints r⟩
end
def kR(K:TQ)(ρ :List Uj)(H:Hp)(a:Uj):PO->Prop
 | .lst xs=> ∃ vs,H a=TK (.lst vs)/\ai K ρ H xs vs
 | .jW xs=> ∃ vs,wq K H a vs/\ai K ρ H xs vs
 | .dct kvs=> ∃ kws,H a=TK (.dK kws)/\V7 (λ(p:Key × PV) (q:Key × V)=>p.1=q.1/\rel K ρ H p.2 q.2) kvs kws
 | .obj C fs=> ∃ dx fws,H a=TK (.ins C dx fws)/\V7 (λ(p:Str × PV) (q:Str × V)=>p.1=q.1/\rel K ρ H p.2 q.2) fs fws
structure cB(K:TQ)(ρ :List Uj)(h:PH)(H:Hp):Prop where
 len: ρ.length=h.length
 nd: ∀(i j:Nat)(a:Uj)(oi oj:PO),h[i]?=TK oi->h[j]?=TK oj->oi.cF=true->oj.cF=true-> ρ[i]?=TK a-> ρ[j]?=TK a->i=j
 ob: ∀(i:Nat)(o:PO)(a:Uj),h[i]?=TK o-> ρ[i]?=TK a->kR K ρ H a o
section
variable {K:TQ} {ρ ρ':List Uj} {H H':Hp} {h:PH}
theorem cB.at(s:cB K ρ h H){i:Nat}(e:h[i]?=TK o): ∃ a, ρ[i]?=TK a∧kR K ρ H a o:=by
 have hi:i < ρ.length:=by rw [s.len];exact (TR.mp e).1
 exact ⟨ρ[i],UI hi,s.ob i o _ e (UI hi)⟩
theorem Paired.dg{κ :Type}{kvs:List (κ × PV)}{kws:List (κ × V)}(g:Gr ρ H ρ' H')(h:V7 (λ(p: κ × PV) (q: κ × V)=>p.1=q.1∧rel K ρ H p.2 q.2) kvs kws) :
  V7 (λ(p: κ × PV) (q: κ × V)=>p.1=q.1/\rel K ρ' H' p.2 q.2) kvs kws:=Paired.Dq h λ_ _ z=>⟨z.1,rel.gr g _ _ z.2⟩
def Qd(H:Hp)(a:Uj):Prop:= ∃ o,H a=TK o/\(∀ xs,o≠ .tup xs)/\ ∀ x u,o≠ .je x u
theorem il{a:Uj}{o:PO}(m:o.cF=true)(r:kR K ρ H a o):Qd H a:=by
 cases o with
 | lst xs=>obtain⟨vs,e,_⟩:=r;exact⟨_,e,(λ_ z=>HO.noConfusion z),λ_ _ z=>HO.noConfusion z⟩
 | jW xs=>nomatch m
 | dct kvs=>obtain⟨kws,e,_⟩:=r;exact⟨_,e,(λ_ z=>HO.noConfusion z),λ_ _ z=>HO.noConfusion z⟩
 | obj C fs=>obtain⟨dx,fws,e,_⟩:=r;exact⟨_,e,(λ_ z=>HO.noConfusion z),λ_ _ z=>HO.noConfusion z⟩
theorem lF{a:Uj}{o:PO}(g:Gr ρ H ρ' H')(k:o.cF=true->H' a=H a)(r:kR K ρ H a o):kR K ρ' H' a o:=by
 cases o with
 | lst xs=>obtain⟨vs,e,r⟩:=r;exact⟨vs,(k rfl).trans e,ai.gr g _ _ r⟩
 | jW xs=>obtain⟨vs,e,r⟩:=r;exact⟨vs,g.Te e,ai.gr g _ _ r⟩
 | dct kvs=>obtain ⟨kws,e,r⟩:=r;exact ⟨kws,(k rfl).trans e,Paired.dg g r⟩
 | obj C fs=>obtain ⟨dx,fws,e,r⟩:=r;exact ⟨dx,fws,(k rfl).trans e,Paired.dg g r⟩
theorem Gr.new{p : Uj}{o : HO}(hp : H p = TL)(l : List Uj) : Gr ρ H (ρ ++ l) (upd H p o) :=
  ⟨λn a e => by rw [Uq (TR.mp e).1]; exact e,
   λa xs e => by rw [av (aE e hp)]; exact e, λa o u e => by rw [av (aE e hp)]; exact e⟩
theorem Gr.pR{p:Uj}{o:HO}(hp:H p=TL):Gr ρ H ρ (upd H p o):=by simpa using Gr.new (ρ := ρ) (o:=o) hp []
theorem cB.tup(s:cB K ρ h H){p:Uj}{o:HO}(hp:H p=TL):cB K ρ h (upd H p o) :=
 ⟨s.len,s.nd,λi x a e1 e2=>lF (Gr.pR hp) (λm=>by
  have:=il m (s.ob i x a e1 e2);refine av ?_;obtain⟨_,z,_⟩:=this;exact aE z hp) (s.ob i x a e1 e2)⟩
theorem cB.new(s:cB K ρ h H){p:Uj}{ho:HO}{o:PO}(hp:H p=TL)(r:kR K (ρ ++[p]) (upd H p ho) p o):cB K (ρ ++[p]) (h++[o]) (upd H p ho):=by
 have g:Gr ρ H (ρ ++[p]) (upd H p ho):=Gr.new hp [p];have old: ∀{i:Nat}{x:PO},(h++[o])[i]?=TK x->(i < h.length/\h[i]?=TK x)\/(i=h.length/\x=o):=λ{i x} e=>by
  rcases Xm i h.length with z | z
  . rw[Uq z] at e;exact .inl ⟨z,e⟩
  . rw[Uo z] at e;have:i - h.length=0:=by
     rcases aaf (i - h.length) with y | y
     . exact y
     . rw[List.getElem?_eq_none (by simp;omega)] at e;nomatch e
    rw[this] at e;exact .inr ⟨by omega,by simpa using e.symm⟩
 have oldρ : ∀{i:Nat}{a:Uj},i < h.length->(ρ ++[p])[i]?=TK a-> ρ[i]?=TK a:=λ{i a} z e=>by
  rw[Uq (by rw[s.len];exact z)] at e;exact e
 have newρ : ∀{a:Uj},(ρ ++[p])[h.length]?=TK a->a=p:=λ{a} e=>by
  rw[<- s.len,Uo (T6 _)] at e;simpa using e.symm
 refine⟨by simp[s.len],λi j a oi oj ei ej mi mj ri rj=>?_,λi x a e1 e2=>?_⟩
 . rcases old ei with⟨zi,ei⟩ | ⟨zi,ei⟩<;>rcases old ej with⟨zj,ej⟩ | ⟨zj,ej⟩
   . exact s.nd i j a oi oj ei ej mi mj (oldρ zi ri) (oldρ zj rj)
   . subst zj;have:=il mi (s.ob i oi a ei (oldρ zi ri));rw[newρ rj] at this;obtain⟨_,z,_⟩:=this;rw[hp] at z;nomatch z
   . subst zi;have:=il mj (s.ob j oj a ej (oldρ zj rj));rw[newρ ri] at this;obtain⟨_,z,_⟩:=this;rw[hp] at z;nomatch z
   . rw[zi,zj]
 . rcases old e1 with⟨z,e⟩ | ⟨z,e⟩
   . refine lF g (λm=>?_) (s.ob i x a e (oldρ z e2));have:=il m (s.ob i x a e (oldρ z e2));refine av ?_;obtain ⟨_,y,_⟩:=this;exact aE y hp
   . subst z;subst e;rw [newρ e2];exact r
theorem Gr.rp{a : Uj}{ho : HO}(m : Qd H a) : Gr ρ H ρ (upd H a ho) := by
  obtain ⟨o, z, n1, n2⟩ := m;refine ⟨λ_ _ h => h, λb xs e => ?_, λb o u e => ?_⟩ <;> (rw [av]; · exact e)
  . rintro rfl; rw [z] at e; exact n1 _ (U0 e)
  . rintro rfl; rw [z] at e; exact n2 _ _ (U0 e)
theorem Gr.write{a:Uj}{ho:HO}(m:(∃ vs,H a=TK (.lst vs))∨ ∃ kws,H a=TK (.dK kws)):Gr ρ H ρ (upd H a ho) :=
 Gr.rp (m.elim (λ⟨_,z⟩=>⟨_,z,(λ_ z=>HO.noConfusion z),λ_ _ z=>HO.noConfusion z⟩) λ⟨_,z⟩=>⟨_,z,(λ_ z=>HO.noConfusion z),λ_ _ z=>HO.noConfusion z⟩)
theorem cB.write(s:cB K ρ h H){i:Nat}{a:Uj}{ho:HO}{o o':PO}(e:h[i]?=TK o)(ea: ρ[i]?=TK a)(m:o.cF=true)(m':o'.cF=true)(r:kR K ρ (upd H a ho) a o') :
  cB K ρ (h.set i o') (upd H a ho):=by
 have ma:=il m (s.ob i o a e ea);have g:Gr ρ H ρ (upd H a ho):=Gr.rp ma;have hi:i < h.length:=(TR.mp e).1;have at_: ∀{j:Nat}{x:PO},(h.set i o')[j]?=TK x->(j=i/\x=o')\/(j≠i/\h[j]?=TK x):=λ{j x} q=>by
  by_cases z:j=i
  . subst z;rw[Us hi] at q;exact .inl ⟨rfl,by simpa using q.symm⟩
  . rw[Um (VI z)] at q;exact .inr ⟨z,q⟩
 refine⟨by simp[s.len],λj k b oj ok ej ek mj mk rj rk=>?_,λj x b e1 e2=>?_⟩
 . rcases at_ ej with⟨zj,_⟩ | ⟨_,ej2⟩<;>rcases at_ ek with⟨zk,_⟩ | ⟨_,Ni⟩
   . rw[zj,zk]
   . rw[zj] at rj ⊢; exact s.nd _ _ b o ok e Ni m mk rj rk
   . rw[zk] at rk ⊢; exact s.nd _ _ b oj o ej2 e mj m rj rk
   . exact s.nd j k b oj ok ej2 Ni mj mk rj rk
 . rcases at_ e1 with⟨rfl,rfl⟩ | ⟨z,e1⟩
   . rw[ea] at e2;cases e2;exact r
   . refine lF g (λmx=>av λq=>z ?_) (s.ob j x b e1 e2);subst q;exact s.nd j i b x o e1 e mx m e2 ea
end
inductive RV(α :Type) where
 | ok (a: α) (h:PH) | ex (c:String) (vs:List PV) (h:PH) | no
variable{α β :Type}
noncomputable def RV.bind:RV α ->(α ->PH->RV β)->RV β
 | .ok a h,f=>f a h
 | .ex c vs h,_=> .ex c vs h
 | .no,_=> .no
theorem iQ:(RV.ok a h).bind f=f a h:=rfl
theorem bind_eq{r:RV α}:r.bind f= .ok b h'↔ ∃ a h,r= .ok a h/\f a h= .ok b h':=by
 cases r with
 | ok a h=>exact⟨λe=>⟨a,h,rfl,e⟩,by rintro ⟨a',h2,e,q⟩;exact by cases e;exact q⟩
 | ex c vs h=>exact⟨λe=>(by cases e),by simp_all⟩
 | no=>exact⟨λe=>(by cases e),by simp_all⟩
theorem CP[Decidable c]{ b:RV α}:(if c then a else b).bind f=if c then a.bind f else b.bind f:=by split<;>rfl
def Ok(r:RV α)(Q: α ->PH->Prop):= ∃ a h,r= .ok a h/\Q a h
abbrev CF:=String->List PV->PH->RV PV
abbrev ME:=CF->az->PH->RV PV
abbrev MT:=CF->az->PH->RV Bool
abbrev MA:=CF->az->PH->RV (List PV)
inductive Fl where
 | nx (e:az) | rt (v:PV) | bk (e:az) | ct (e:az)
abbrev MS:=CF->az->PH->RV Fl
abbrev MG:=PV->az->PH->RV az
structure pE where
 gd:Option Nat
 items:List PV
abbrev MI:=CF->az->PH->RV pE
structure Df where
 ps:List Str
 nl:Nat
 body:MS
structure Tb where
 fns:String->Option Df
 con:Str->Option PV
 sJ:Str->Option (List (Key × PV))
 qE:String->Option (String × Str × Df)
 cls:String->Option (Nat × String)
 adr:String->Option (Nat × List Str)
noncomputable def Tb.df(pg:Tb)(f:String):Option Df:=match pg.fns f with
 | some d=>TK d
 | none=>(pg.qE f).map (·.2.2)
def bF(n:Nat):PH->PH->Bool
 | [],_=>true
 | _::_,[]=>false
 | o::h,o'::h'=>(decide (o=o')||(o'.dH n&&o.cF == o'.cF))&&bF n h h'
def settle(h:PH)(v:PV)(h':PH):RV PV:=if (v.flat&&bF h.length h h')=true then .ok v (h'.take h.length) else .ok v h'
theorem fc n: ∀ h g,bF n h (h++g)=true
 | [],g=>rfl
 | o::h,g=>by rw[Vf,bF,fc n h g];simp
theorem da(hu:o'.dH n=true): ∀ h h' i o,bF n h h'=true->h[i]?=TK o->o.cF=o'.cF->bF n h (h'.set i o')=true
 | [],h',i,o,_,e,_=>by simp at e
 | a::h,[],i,o,q,_,_=>by simp[bF] at q
 | a::h,b::h',0,o,q,e,m=>by
  rw[bF,Uw] at q;simp at e;subst e;rw[WB,bF,q.2,hu,m];simp
 | a::h,b::h',i+1,o,q,e,m=>by
  rw[bF,Uw] at q;rw[aag,bF,da hu h h' i o q.2 (by simpa using e) m,q.1];rfl
theorem pq: ∀{h h'},bF n h h'=true->h.length<=h'.length
 | [],h',_=>Vp _
 | o::h,[],e=>by simp[bF] at e
 | o::h,o'::h',e=>by
  rw[bF,Uw] at e;exact Nat.succ_le_succ (pq e.2)
theorem kK: ∀{h h'}{i:Nat}{o'},bF n h h'=true->(h'.take h.length)[i]?=TK o'-> ∃ o,h[i]?=TK o/\o.cF=o'.cF/\(o=o'\/o'.dH n=true)
 | [],h',i,o',_,e=>by simp at e
 | a::h,[],i,o',q,_=>by simp[bF] at q
 | a::h,b::h',0,o',q,e=>by
  rw[bF,Uw,XH,Uw] at q;simp at e;subst e;refine⟨a,rfl,?_,?_⟩
  . rcases q.1 with z | z
    . rw[of_decide_eq_true z]
    . simpa using z.2
  . rcases q.1 with z | z
    . exact .inl (of_decide_eq_true z)
    . exact .inr z.1
 | a::h,b::h',i+1,o',q,e=>by
  rw[bF,Uw] at q;simpa using kK q.2 (by simpa using e)
def run(pg:Tb):Nat->CF
 | 0,_,_,_=> .no
 | k+1,f,vs,h=>match pg.df f with
  | none=>(match pg.cls f with
   | some q=>(match run pg k q.2 (.ref h.length::vs) (h++[.obj q.1 []]) with
    | .ok .non h'=> .ok (.ref h.length) h'
    | _=> .no)
   | none=>(match pg.adr f with
    | some q=> .ok (.int q.1) h
    | none=> .no))
  | some d=>if vs.length=d.ps.length then
    (match d.body (run pg k) (vs.map TK++Ue d.nl TL) h with
    | .ok (.rt v) h'=>settle h v h'
    | .ok (.nx _) h'=>settle h .non h'
    | .ok _ _=> .no
    | .ex c us h'=> .ex c us h'
    | .no=> .no)
   else .no
theorem sZ{pg:Tb}{f:String}{d:Df}(h:pg.fns f=TK d):pg.df f=TK d:=by unfold Tb.df;rw[h]
def dh(K:TQ)(ρ :List Uj) H v h' (Q:VK):= ∀ v' ρ' H',Gr ρ H ρ' H'->cB K ρ' h' H'->rel K ρ' H' v v'->Q v' H'
def jJ(K:TQ)(ρ :List Uj) H h' (Q:Hp->Prop):= ∀ ρ' H',Gr ρ H ρ' H'->cB K ρ' h' H'->Q H'
def OQ(K:TQ)(ρ :List Uj) H (vs:List PV) h' (Q:List V->Hp->Prop):= ∀ us ρ' H',Gr ρ H ρ' H'->cB K ρ' h' H'->ai K ρ' H' vs us->Q us H'
structure dv (K:TQ) (ρ :List Uj) (H:Hp) (e:az) (σ :L2.St):Prop where
 len:e.length= σ.length
 get: ∀(i:Nat)(v:PV),e[i]?=TK (TK v)-> ∃ v', σ[i]?=TK (TK v')∧rel K ρ H v v'
def fC(K:TQ)(ρ :List Uj) H e' h' (Q:L2.St->Hp->Prop):= ∀ σ' ρ' H',Gr ρ H ρ' H'->cB K ρ' h' H'->dv K ρ' H' e' σ'->Q σ' H'
def xo(K:TQ)(ρ :List Uj)(H:Hp)(D:Ends)(h':PH):Fl->Prop
 | .nx e=>fC K ρ H e h' D.nx
 | .bk e=>fC K ρ H e h' D.bk
 | .ct e=>fC K ρ H e h' D.ct
 | .rt v=>dh K ρ H v h' D.rt
section
variable{K:TQ}{ρ ρ1:List Uj}{H H1:Hp}{h':PH}
theorem dv.gr(r:dv K ρ H e σ)(g:Gr ρ H ρ1 H1):dv K ρ1 H1 e σ :=⟨r.len,λi v q=>by obtain⟨v',a,b⟩:=r.get i v q;exact⟨v',a,rel.gr g _ _ b⟩⟩
theorem dv.set(r:dv K ρ H e σ) i (h:rel K ρ H v v'):dv K ρ H (e.set i (TK v)) (σ.set i (TK v')):=by
 refine⟨by simp[r.len],λj x q=>?_⟩;by_cases z:j=i
 . subst z;have hj:j < e.length:=by
    have:=(TR.mp q).1;simpa using this
   rw[Us hj] at q;cases q;exact⟨v',Us (by rw[<- r.len];exact hj),h⟩
 . rw[Um (VI z)] at q ⊢;exact r.get j x q
theorem dv.more(r:dv K ρ H e σ) k:dv K ρ H (e++Ue k TL) (σ ++Ue k TL):=by
 refine⟨by simp[r.len],λj x q=>?_⟩;rcases Xm j e.length with z | z
 . rw[Uq z] at q;rw[Uq (by rw[<- r.len];exact z)];exact r.get j x q
 . rw[Uo z,Ws] at q;split at q<;>nomatch q
theorem dh.gr(p:dh K ρ H v h' Q)(g:Gr ρ H ρ1 H1):dh K ρ1 H1 v h' Q:=λv' ρ' H' g'=>p v' ρ' H' (g.trans g')
theorem jJ.gr(p:jJ K ρ H h' Q)(g:Gr ρ H ρ1 H1):jJ K ρ1 H1 h' Q:=fun ρ' H' g'=>p ρ' H' (g.trans g')
theorem fC.gr(p:fC K ρ H e h' Q)(g:Gr ρ H ρ1 H1):fC K ρ1 H1 e h' Q:=λv' ρ' H' g'=>p v' ρ' H' (g.trans g')
theorem xo.gr(p:xo K ρ H D h' f)(g:Gr ρ H ρ1 H1):xo K ρ1 H1 D h' f:=by
 cases f with
 | nx e=>exact fC.gr p g
 | bk e=>exact fC.gr p g
 | ct e=>exact fC.gr p g
 | rt e=>exact dh.gr p g
end
def SE c (K:TQ) (t:TE) (m:ME):= ∀ ρ h H e σ Q v h',cB K ρ h H->dv K ρ H e σ ->m c e h= .ok v h'->dh K ρ H v h' Q->t σ H Q
def ST c (K:TQ) (t:TT) (m:MT):= ∀ ρ h H e σ Q b h',cB K ρ h H->dv K ρ H e σ ->m c e h= .ok b h'->jJ K ρ H h' (Q b)->t σ H Q
def SA c (K:TQ) (t:TA) (m:MA):= ∀ ρ h H e σ Q vs h',cB K ρ h H->dv K ρ H e σ ->m c e h= .ok vs h'->OQ K ρ H vs h' Q->t σ H Q
def SS c (K:TQ) (t:TS) (m:MS):= ∀ ρ h H e σ D f h',cB K ρ h H->dv K ρ H e σ ->m c e h= .ok f h'->xo K ρ H D h' f->t D σ H
def SG(K:TQ)(t:TG)(m:MG):= ∀ ρ h H e σ Q v v' e' h',cB K ρ h H->dv K ρ H e σ ->rel K ρ H v v'->m v e h= .ok e' h'->fC K ρ H e' h' Q->t v' σ H Q
noncomputable def pE.iw(it:pE)(h:PH):Bool:=match it.gd with
 | none=>true
 | some n=>decide (h[n]?=TK (.lst it.items)\/h[n]?=TK (.jW it.items))
def SF(K:TQ)(ρ0:List Uj) H0 (J:It) (it:pE):= ∀ i ρ h H,Gr ρ0 H0 ρ H->cB K ρ h H->it.iw h=true ->
 (∀ x,it.items[i]?=TK x->J.go i H∧ ∀ v H',J.Ly i H v H'-> ∃ ρ',Gr ρ H ρ' H'∧cB K ρ' h H'∧rel K ρ' H' x v)∧(i=it.items.length->J.stop i H)
def SI c (K:TQ) (t:TI) (m:MI):= ∀ ρ h H e σ R it h',cB K ρ h H->dv K ρ H e σ ->m c e h= .ok it h'->(∀ ρ' H' J,Gr ρ H ρ' H'->cB K ρ' h' H'->SF K ρ' H' J it->R J H')->t σ H R
def jQ(K:TQ)(pg:Tb)(k:Nat)(f:String):Sp:=λvs H Q _=> ∃ ρ h args v h',cB K ρ h H∧ai K ρ H args vs∧run pg k f args h= .ok v h'∧dh K ρ H v h' Q
noncomputable def gy:List Str:=["len", "range", "isinstance", "int", "bool", "tuple", "dict", "sorted", "min", "max", "abs", "all", "any", "sum", "str", "list", "zip", "set", "repr", "enumerate"]
def yJ(K:TQ)(v:V):= ∀ a,v= .ref a-> ∃ o,K.lookup a=TK o∧o.cls= .type "tuple" ∧o.dict=TL
structure L7 (K:TQ) (mg:Str->Option TY) (pg:Tb):Prop where
 adr: ∀ c q,pg.adr c=TK q->yr K q.1∧ ∀ f∈q.2,gP K q.1 f
 cls: ∀ x q,pg.cls x=TK q->mg (TU x)=TK (.ref q.1)/\WC K q.1=true/\Vt K (.ref q.1)=true/\ ∃ c d l,pg.qE q.2=TK (c,("__init__" :Str),d)/\pg.adr c=TK (q.1,l)
def Og(P:UP)(w:U6)(K:TQ)(mg:Str->Option TY)(base:Vx)(pg:Tb)(j:Nat):Prop :=
 ∀ fn c m d,pg.qE fn=TK (c,m,d)->pg.fns fn=TL/\ ∀ q,pg.adr c=TK q-> ∃ fa fd,Meth K q.1 m fa/\gi P w K mg base mV j fa fd d.ps (jQ K pg j fn)/\Binds K fd d.ps []
structure cC(X:Cx)(pg:Tb)(k:Nat):Prop where
 room:ck k X.A
 calm:X.calm=true
 lT: ∀ v s,¬ X.xe v s
 defs: ∀ f d,pg.fns f=TK d->lQ X.prog X.w X.K X.mg X.base (TU f) k d.ps (jQ X.K pg k f)
 blt: ∀ x∈gy,X.mg x=TL
 con: ∀ x v,pg.con x=TK v-> ∃ u v',X.mg x=TK u/\RelV v' u/\yJ X.K v'/\ ∀ ρ H,rel X.K ρ H v v'
 sJ: ∀ x kvs,pg.sJ x=TK kvs-> ∃ a kws,X.mg x=TK (.ref a)/\KD X.prog X.w X.K a kws/\ ∀ ρ H,V7 (λ(p:Key × PV) (q:Key × V)=>p.1=q.1/\rel X.K ρ H p.2 q.2) kvs kws
 ct:L7 X.K X.mg pg
 mt: ∀ j,j<=k->Og X.prog X.w X.K X.mg X.base pg j
theorem cC.eL{X:Cx}{pg:Tb}{k:Nat}(a:cC X pg k)(vars:List Str)(scope:XY)(cl:List (Str × Uj))(C:Uj)(s₀ :Ua)(H₀ :Hp)(ex:List Uj)(pn:List (Uj × Obj)):cC (eL X vars scope cl C s₀ H₀ ex pn) pg k :=
 ⟨a.room,a.calm,a.lT,a.defs,a.blt,a.con,a.sJ,a.ct,a.mt⟩
structure JE(X:Cx)(pg:Tb)(k:Nat)(e:UR)(m:ME):Prop where h:cC X pg k-> ∃ t,QE X e t/\SE (run pg k) X.K t m
structure JT(X:Cx)(pg:Tb)(k:Nat)(e:UR)(m:MT):Prop where h:cC X pg k-> ∃ t,QT X e t/\ST (run pg k) X.K t m
structure JW(X:Cx)(pg:Tb)(k:Nat)(e:UR)(m:MT):Prop where h:cC X pg k-> ∃ t,QW X e t/\ST (run pg k) X.K t m
structure JA(X:Cx)(pg:Tb)(k:Nat)(e:List UR)(m:MA):Prop where h:cC X pg k-> ∃ t,QA X e t/\SA (run pg k) X.K t m
structure JS(X:Cx)(pg:Tb)(k:Nat)(s:Xe)(m:MS):Prop where h:cC X pg k-> ∃ t,QS X s t/\SS (run pg k) X.K t m
structure tV(X:Cx)(pg:Tb)(k:Nat)(s:List Xe)(m:MS):Prop where h:cC X pg k-> ∃ t,C8 X s t/\SS (run pg k) X.K t m
structure JG(X:Cx)(pg:Tb)(k:Nat)(e:UR)(m:MG):Prop where h:cC X pg k-> ∃ t,QG X e t/\SG X.K t m
structure JI(X:Cx)(pg:Tb)(k:Nat)(tg e:UR)(m:MI):Prop where h:cC X pg k-> ∃ t,QI X tg e t/\SI (run pg k) X.K t m
structure JF(X:Cx)(pg:Tb)(k:Nat)(es:List UR)(m:MT):Prop where h:cC X pg k-> ∃ t,QF X es t/\ST (run pg k) X.K t m
def kZ(K:TQ)(r:R2)(f:PV->PV->PH->RV PV):= ∀ ρ h H x y x' y' Q v h',cB K ρ h H->rel K ρ H x x'->rel K ρ H y y'->f x y h= .ok v h'->dh K ρ H v h' Q->r x' y' H Q
def zr(K:TQ)(r:List V->Hp->VK->Prop)(f:List PV->PH->RV PV):= ∀ ρ h H xs us Q v h',cB K ρ h H->ai K ρ H xs us->f xs h= .ok v h'->dh K ρ H v h' Q->r us H Q
def Hu(K:TQ)(T:String)(r:V->List V->Hp->VK->Prop)(f:PV->List PV->PH->RV PV)(ty:PV->PH->Bool) :=
 (∀ ρ h H x x',cB K ρ h H->rel K ρ H x x'->ty x h=true->K3 K T x' H) /\
 ∀ ρ h H x x' xs us Q v h',cB K ρ h H->rel K ρ H x x'->ai K ρ H xs us->f x xs h= .ok v h'->dh K ρ H v h' Q->r x' us H Q
noncomputable def aa(i:Nat):ME:=λ_ e h=>match e[i]? with
 | some (TK v)=> .ok v h
 | _=> .no
noncomputable def eC(v:PV):ME:=λ_ _ h=> .ok v h
def aq(f:PV->PV->PH->RV PV)(a b:ME):ME:=λc e h=>(a c e h).bind λx h1=>(b c e h1).bind λy h2=>f x y h2
def Eg(f:PV->PH->RV PV)(a:ME):ME:=λc e h=>(a c e h).bind f
noncomputable def sN(v:PV)(h:PH):RV Bool:=match v with
 | .bl b=> .ok b h
 | _=> .no
def ic(a b:ME):ME:=λc e h=>((a c e h).bind sN).bind λx h1=>if x=true then b c e h1 else .ok (.bl false) h1
def HH(a b:ME):ME:=λc e h=>((a c e h).bind sN).bind λx h1=>if x=true then .ok (.bl true) h1 else b c e h1
def G5(a:ME):ME:=λc e h=>((a c e h).bind sN).bind λx h1=> .ok (.bl (!x)) h1
def Na(t:MT)(a b:ME):ME:=λc e h=>(t c e h).bind λx h1=>if x=true then a c e h1 else b c e h1
def aX(a:ME):MT:=λc e h=>(a c e h).bind sN
def xS(a b:MT):MT:=λc e h=>(a c e h).bind λx h1=>if x=true then b c e h1 else .ok false h1
def C7(a b:MT):MT:=λc e h=>(a c e h).bind λx h1=>if x=true then .ok true h1 else b c e h1
def mF(a:MT):MT:=λc e h=>(a c e h).bind λx h1=> .ok (!x) h1
noncomputable def aV:MT:=λ_ _ h=> .ok true h
noncomputable def af:MA:=λ_ _ h=> .ok [] h
def ab(a:ME)(r:MA):MA:=λc e h=>(a c e h).bind λx h1=>(r c e h1).bind λxs h2=> .ok (x::xs) h2
noncomputable def iT n (r:RV α):=if n<=Ub then r else .no
def bA(r:MA):ME:=λc e h=>(r c e h).bind λxs h1=>iT xs.length (.ok (.tup xs) h1)
def ay(r:MA):ME:=λc e h=>(r c e h).bind λxs h1=>iT xs.length (.ok (.ref h1.length) (h1++[.lst xs]))
def ag(f:String)(r:MA):ME:=λc e h=>(r c e h).bind λxs h1=>c f xs h1
def eB(f:List PV->PH->RV PV)(r:MA):ME:=λc e h=>(r c e h).bind f
def eM(f:PV->List PV->PH->RV PV)(ty:PV->PH->Bool)(a:ME)(r:MA):ME:=λc e h=>(a c e h).bind λx h1=>if ty x h1=true then(r c e h1).bind λxs h2=>f x xs h2 else .no
def kE(f g:PV->PV->PH->RV PV)(a b d:ME):ME:=λc e h=>(a c e h).bind λx h1=>(b c e h1).bind λy h2=>((f x y h2).bind sN).bind λk h3=>if k=true then(d c e h3).bind λz h4=>g y z h4 else .ok (.bl false) h3
theorem iC:iT n r= .ok a h↔n<=Ub/\r= .ok a h:=by
 unfold iT;split
 . exact⟨λe=>⟨by assumption,e⟩,λe=>e.2⟩
 . exact⟨λe=>(by cases e),λe=>absurd e.1 (by assumption)⟩
theorem oS:sN v h= .ok b h'↔v= .bl b/\h'=h:=by
 cases v<;>simp[sN,eq_comm]
section
variable{X:Cx}{pg:Tb}{k:Nat}{a b c d e:UR}{es:List UR}{ma mb mc md:ME}{mr:MA}{mt mt':MT}{pos p pos' apos cpos:Pos}{x:Str}
theorem MU i (hN:X.N[i]?=TK x:=by rfl) (hv:Il X.env.scope x:=by first | exact Zw rfl | exact X7 (Zw rfl) | exact X7 (X7 rfl)) (hd:(x == ("__debug__"))=false:=by decide)
  (hcd:(x == ("__classdict__"))=false:=by decide):JE X pg k (.Name x pos) (aa i):=⟨λA=>⟨_,qv i hN hv hd hcd,fun ρ h H e σ Q v h' s r q P=>by
 unfold aa at q;split at q
 . cases q;obtain⟨v',e1,e2⟩:=r.get i v (by assumption);exact⟨v',e1,P v' ρ H (.refl _ _) s e2⟩
 . cases q⟩⟩
theorem A7{K}(hr: ∀ ρ H,rel K ρ H v v'):SE cf K (tC v') (eC v):=fun ρ h H e σ Q w h' s r q P=>by cases q;exact P v' ρ H (.refl _ _) s (hr ρ H)
theorem HS:JE X pg k (.Constant (.int n) j pos) (eC (.int n)):=⟨λA=>⟨_,K0,A7 fun ρ H=>by rw[rel]⟩⟩
theorem PX:JE X pg k (.Constant (.bool n) j pos) (eC (.bl n)):=⟨λA=>⟨_,Pz,A7 fun ρ H=>by rw[rel]⟩⟩
theorem MY:JE X pg k (.Constant (.str n) j pos) (eC (.str n)):=⟨λA=>⟨_,HU,A7 fun ρ H=>by rw[rel]⟩⟩
theorem Kr(hc:pg.con x=TK v)(hg:Gl X x)(hd:(x == ("__debug__"))=false:=by decide):JE X pg k (.Name x pos) (eC v):=⟨λA=>by obtain⟨u,v',e1,e2,_,e3⟩:=A.con x v hc;exact⟨_,xp hg e1 e2 hd,A7 e3⟩⟩
theorem t8(hg:Gl X x)(hb:x∈gy)(hv:Vy x=TK (.type T))(hn:x≠ "__name__" :=by decide)(hd:(x == ("__debug__"))=false:=by decide):JE X pg k (.Name x pos) (eC (.ty T)) :=
 ⟨λA=>⟨_,F1 (v:= .ty T) hg (A.blt x hb) hv rfl hn hd,A7 fun ρ H=>by rw[rel]⟩⟩
theorem xu{K}(ho:kZ K r f)(ha:SE cf K ta ma)(hb:SE cf K tb mb):SE cf K (EX r ta tb) (aq f ma mb):=fun ρ h H e σ Q v h' s r q P=>by
 obtain⟨x,h1,e1,q⟩:=bind_eq.mp q;obtain⟨y,h2,e2,q⟩:=bind_eq.mp q;refine ha ρ h H e σ _ x h1 s r e1 λx' ρ1 H1 g1 s1 r1=>?_;refine hb ρ1 h1 H1 e σ _ y h2 s1 (r.gr g1) e2 λy' ρ2 H2 g2 s2 r2=>?_;exact ho ρ2 h2 H2 x y x' y' Q v h' s2 (rel.gr g2 _ _ r1) r2 q (P.gr (g1.trans g2))
theorem Oe(ho:cC X pg k-> ∃ r,cT X (VC op) r/\kZ X.K r f)(ha:JE X pg k a ma)(hb:JE X pg k b mb):JE X pg k (.BinOp a op b pos) (aq f ma mb):=⟨λA =>
 let ⟨_,q1,s1⟩:=ha.h A;let ⟨_,q2,s2⟩:=hb.h A;by obtain⟨_,q,s⟩:=ho A;exact⟨_,Ob q q1 q2,xu s s1 s2⟩⟩
theorem CK(ho:cC X pg k-> ∃ r,cT X (UJ op) r/\kZ X.K r f)(ha:JE X pg k a ma)(hb:JE X pg k b mb)(hm:U7 op b=false):JE X pg k (.Compare a [op] [b] pos) (aq f ma mb):=⟨λA =>
 let ⟨_,q1,s1⟩:=ha.h A;let ⟨_,q2,s2⟩:=hb.h A;by obtain⟨_,q,s⟩:=ho A;exact⟨_,Fq q q1 q2 hm,xu s s1 s2⟩⟩
theorem nL{K}(ha:SE cf K ta ma):ST cf K (tW ta) (aX ma):=fun ρ h H e σ Q v h' s r q P=>by
 obtain⟨x,h1,e1,q⟩:=bind_eq.mp q;obtain⟨rfl,rfl⟩:=oS.mp q;refine ha ρ h H e σ _ _ _ s r e1 λx' ρ1 H1 g1 s1 r1=>?_;exact⟨v,r1,P ρ1 H1 g1 s1⟩
theorem A4(ho:cC X pg k-> ∃ r,cT X (UJ op) r/\kZ X.K r f)(ha:JE X pg k a ma)(hb:JE X pg k b mb)(hm:U7 op b=false):JT X pg k (.Compare a [op] [b] pos) (aX (aq f ma mb)):=⟨λA =>
 let ⟨_,q1,s1⟩:=ha.h A;let ⟨_,q2,s2⟩:=hb.h A;by obtain⟨_,q,s⟩:=ho A;exact⟨_,Er q q1 q2 hm,nL (xu s s1 s2)⟩⟩
theorem KR(ha:JE X pg k e ma)(he: ∀ whole,aaA e X.env whole=(do let v <- whole;Yj e.pos;WS [v] (truthy v)):=by intro _;rfl):JT X pg k e (aX ma):=⟨λA =>
 by obtain⟨_,q1,s1⟩:=ha.h A;exact⟨_,Je q1 he,nL s1⟩⟩
theorem Qq{op:UnaryOp}{f:PV->PH->RV PV}(ho:cC X pg k-> ∃ r,Nd X (aaT op) r/\ ∀ ρ h H x x' Q v h',cB X.K ρ h H->rel X.K ρ H x x'->f x h= .ok v h'->dh X.K ρ H v h' Q->r x' H Q)(ha:JE X pg k a ma):JE X pg k (.UnaryOp op a pos) (Eg f ma):=⟨λA =>
 let ⟨_,q1,s1⟩:=ha.h A;let ⟨_,q,s⟩:=ho A;⟨_,NX q q1,fun ρ h H e σ Q v h' z r q P=>by
  obtain⟨x,h1,e1,q⟩:=bind_eq.mp q;exact s1 ρ h H e σ _ x h1 z r e1 λx' ρ1 H1 g1 z1 r1=>s ρ1 h1 H1 x x' Q v h' z1 r1 q (P.gr g1)⟩⟩
theorem Jh(ha:JE X pg k a ma):JE X pg k (.UnaryOp .Not a pos) (G5 ma):=⟨λA =>
 by obtain⟨_,q1,s1⟩:=ha.h A;exact⟨_,KZ q1,fun ρ h H e σ Q v h' s r q P=>by
  obtain⟨x,h2,q2,q⟩:=bind_eq.mp q;obtain⟨y,h1,e1,q2⟩:=bind_eq.mp q2;obtain⟨rfl,rfl⟩:=oS.mp q2;cases q;refine s1 ρ h H e σ _ _ _ s r e1 λx' ρ1 H1 g1 z1 r1=>?_;exact⟨x,r1,P _ ρ1 H1 g1 z1 (by rw[rel])⟩⟩⟩
theorem KC(h:JE X pg k a ma):JE X pg k (.BoolOp op [a] pos) ma:=⟨λA=>by obtain⟨_,q1,s1⟩:=h.h A;exact⟨_,JY q1,s1⟩⟩
theorem LF{rest}(ha:JE X pg k a ma)(hb:JE X pg k (.BoolOp .And (b::rest) pos) mb):JE X pg k (.BoolOp .And (a::b::rest) pos) (ic ma mb):=⟨λA =>
 by obtain⟨_,q1,s1⟩:=ha.h A;exact by obtain⟨_,q2,s2⟩:=hb.h A;exact⟨_,Jm q1 q2,fun ρ h H e σ Q v h' s r q P=>by
  obtain⟨x,h2,q2,q⟩:=bind_eq.mp q;obtain⟨y,h1,e1,q2⟩:=bind_eq.mp q2;obtain⟨rfl,rfl⟩:=oS.mp q2;refine s1 ρ h H e σ _ _ _ s r e1 λx' ρ1 H1 g1 z1 r1=>?_;refine⟨x,r1,?_⟩;cases x with
  | true=>exact s2 ρ1 _ H1 e σ _ _ _ z1 (r.gr g1) q (P.gr g1)
  | false=>cases q;exact P _ ρ1 H1 g1 z1 (by rw[rel])⟩⟩
theorem OL{rest}(ha:JE X pg k a ma)(hb:JE X pg k (.BoolOp .Or (b::rest) pos) mb):JE X pg k (.BoolOp .Or (a::b::rest) pos) (HH ma mb):=⟨λA =>
 by obtain⟨_,q1,s1⟩:=ha.h A;exact by obtain⟨_,q2,s2⟩:=hb.h A;exact⟨_,OJ q1 q2,fun ρ h H e σ Q v h' s r q P=>by
  obtain⟨x,h2,q2,q⟩:=bind_eq.mp q;obtain⟨y,h1,e1,q2⟩:=bind_eq.mp q2;obtain⟨rfl,rfl⟩:=oS.mp q2;refine s1 ρ h H e σ _ _ _ s r e1 λx' ρ1 H1 g1 z1 r1=>?_;refine⟨x,r1,?_⟩;cases x with
  | false=>exact s2 ρ1 _ H1 e σ _ _ _ z1 (r.gr g1) q (P.gr g1)
  | true=>cases q;exact P _ ρ1 H1 g1 z1 (by rw[rel])⟩⟩
theorem Cj(hc:JT X pg k c mt)(ha:JE X pg k a ma)(hb:JE X pg k b mb):JE X pg k (.IfExp c a b pos) (Na mt ma mb):=⟨λA =>
 by obtain⟨_,q0,s0⟩:=hc.h A;exact let ⟨_,q1,s1⟩:=ha.h A;let ⟨_,q2,s2⟩:=hb.h A;⟨_,AY q0 q1 q2,fun ρ h H e σ Q v h' s r q P=>by
  obtain⟨x,h1,e1,q⟩:=bind_eq.mp q;refine s0 ρ h H e σ _ _ _ s r e1 fun ρ1 H1 g1 z1=>?_;cases x with
  | true=>exact s1 ρ1 _ H1 e σ _ _ _ z1 (r.gr g1) q (P.gr g1)
  | false=>exact s2 ρ1 _ H1 e σ _ _ _ z1 (r.gr g1) q (P.gr g1)⟩⟩
theorem Ey(ha:JT X pg k a mt):JW X pg k (.BoolOp .And [a] pos) mt:=⟨λA=>by obtain⟨_,q1,s1⟩:=ha.h A;exact⟨_,En q1,s1⟩⟩
theorem Mc(ha:JT X pg k a mt):JW X pg k (.BoolOp .Or [a] pos) mt:=⟨λA=>by obtain⟨_,q1,s1⟩:=ha.h A;exact⟨_,IZ q1,s1⟩⟩
theorem Cn{rest}(ha:JT X pg k a mt)(hb:JW X pg k (.BoolOp .And (b::rest) pos) mt'):JW X pg k (.BoolOp .And (a::b::rest) pos) (xS mt mt'):=⟨λA =>
 by obtain⟨_,q1,s1⟩:=ha.h A;exact by obtain⟨_,q2,s2⟩:=hb.h A;exact⟨_,Kl q1 q2,fun ρ h H e σ Q v h' s r q P=>by
  obtain⟨x,h1,e1,q⟩:=bind_eq.mp q;refine s1 ρ h H e σ _ _ _ s r e1 fun ρ1 H1 g1 z1=>?_;cases x with
  | true=>exact s2 ρ1 _ H1 e σ _ _ _ z1 (r.gr g1) q (P.gr g1)
  | false=>cases q;exact P ρ1 H1 g1 z1⟩⟩
theorem Hi{rest}(ha:JT X pg k a mt)(hb:JW X pg k (.BoolOp .Or (b::rest) pos) mt'):JW X pg k (.BoolOp .Or (a::b::rest) pos) (C7 mt mt'):=⟨λA =>
 by obtain⟨_,q1,s1⟩:=ha.h A;exact by obtain⟨_,q2,s2⟩:=hb.h A;exact⟨_,OC q1 q2,fun ρ h H e σ Q v h' s r q P=>by
  obtain⟨x,h1,e1,q⟩:=bind_eq.mp q;refine s1 ρ h H e σ _ _ _ s r e1 fun ρ1 H1 g1 z1=>?_;cases x with
  | false=>exact s2 ρ1 _ H1 e σ _ _ _ z1 (r.gr g1) q (P.gr g1)
  | true=>cases q;exact P ρ1 H1 g1 z1⟩⟩
theorem JW.pt(h:JW X pg k e mt):JT X pg k e mt:=⟨λA=>by obtain⟨_,q1,s1⟩:=h.h A;exact⟨_,q1.pt,s1⟩⟩
theorem Mm(ha:JT X pg k a mt):JT X pg k (.UnaryOp .Not a pos) (mF mt):=⟨λA=>by obtain⟨_,q1,s1⟩:=ha.h A;exact⟨_,KG q1,fun ρ h H e σ Q v h' s r q P=>by
  obtain⟨x,h1,e1,q⟩:=bind_eq.mp q;cases q;exact s1 ρ h H e σ _ _ _ s r e1 fun ρ1 H1 g1 z1=>P ρ1 H1 g1 z1⟩⟩
theorem MR:JF X pg k [] aV:=⟨λA=>⟨_,IQ,fun ρ h H e σ Q v h' s r q P=>by cases q;exact P ρ H (.refl _ _) s⟩⟩
theorem Lh:JA X pg k [] af:=⟨λA=>⟨_,rF,fun ρ h H e σ Q v h' s r q P=>by cases q;exact P [] ρ H (.refl _ _) s (bG.mpr rfl)⟩⟩
theorem Eb(ha:JE X pg k e ma)(hr:JA X pg k es mr)(hs:noStar e=true:=by rfl):JA X pg k (e::es) (ab ma mr):=⟨λA =>
 by obtain⟨_,q1,s1⟩:=ha.h A;exact by obtain⟨_,q2,s2⟩:=hr.h A;exact⟨_,qk q1 q2 hs,fun ρ h H e σ Q v h' s r q P=>by
  obtain⟨x,h1,e1,q⟩:=bind_eq.mp q;obtain⟨xs,h2,e2,q⟩:=bind_eq.mp q;cases q;refine s1 ρ h H e σ _ _ _ s r e1 λx' ρ1 H1 g1 z1 r1=>?_;refine s2 ρ1 h1 H1 e σ _ _ _ z1 (r.gr g1) e2 λus ρ2 H2 g2 z2 r2=>?_;exact P _ ρ2 H2 (g1.trans g2) z2 (ar.mpr ⟨x',us,rfl,rel.gr g2 _ _ r1,r2⟩)⟩⟩
theorem JR(h:JA X pg k es mr):JE X pg k (.Tuple es x1 pos) (bA mr):=⟨λA =>
 by obtain⟨_,q1,s1⟩:=h.h A;exact⟨_,L5 q1,fun ρ h H e σ Q v h' s r q P=>by
  obtain⟨xs,h1,e1,q⟩:=bind_eq.mp q;obtain⟨hl,q⟩:=iC.mp q;cases q;refine s1 ρ h H e σ _ _ _ s r e1 λus ρ1 H1 g1 z1 r1=>⟨by rw[<- r1.len];exact hl,λp hp=>?_⟩
  refine P _ ρ1 _ (g1.trans (Gr.pR hp)) (z1.tup hp) ?_;exact⟨p,us,rfl,aI,ai.gr (Gr.pR hp) _ _ r1⟩⟩⟩
theorem gW{K}(s:cB K ρ h H)(r:ai K ρ H xs us)(P:dh K ρ H (.ref h.length) (h++[.lst xs]) Q) p (hp:H p=TL):Q (.ref p) (upd H p (.lst us)):=by
 refine P _ (ρ ++[p]) _ (Gr.new hp [p]) (s.new hp ⟨us,aI,ai.gr (Gr.new hp [p]) _ _ r⟩) ?_;exact⟨p,by rw[<- s.len,Uo (T6 _)];simp,rfl⟩
theorem MD(h:JA X pg k es mr):JE X pg k (.List es pos) (ay mr):=⟨λA =>
 by obtain⟨_,q1,s1⟩:=h.h A;exact⟨_,Ka q1,fun ρ h H e σ Q v h' s r q P=>by
  obtain⟨xs,h1,e1,q⟩:=bind_eq.mp q;obtain⟨hl,q⟩:=iC.mp q;cases q;exact s1 ρ h H e σ _ _ _ s r e1 λus ρ1 H1 g1 z1 r1=>⟨by rw[<- r1.len];exact hl,λp hp=>gW z1 r1 (P.gr g1) p hp⟩⟩⟩
theorem Dl{d}(hf:pg.fns f=TK d)(hg:Gl X (TU f))(ha:JA X pg k (e::es) mr)(hdb:(TU f == ("__debug__"))=false:=by decide)(he:noStar e=true:=by rfl)(hpl:es.all noStar=true:=by rfl) :
  JE X pg k (.Call (.Name (TU f) p) (e::es) [] pos) (ag f mr):=⟨λA =>
 by obtain⟨_,q1,s1⟩:=ha.h A;exact⟨_,qd (A.defs f d hf) A.room hg (T6 _) q1 hdb he hpl,fun ρ h H e σ Q v h' s r q P=>by
  obtain⟨xs,h1,e1,q⟩:=bind_eq.mp q;refine s1 ρ h H e σ _ _ _ s r e1 λus ρ1 H1 g1 z1 r1=>?_;rw[Ui];exact⟨ρ1,h1,xs,v,h',z1,r1,q,P.gr g1⟩⟩⟩
theorem Qu{K}(ho:zr K r f)(ha:SA cf K ta mr):SE cf K (JJ r ta) (eB f mr):=fun ρ h H e σ Q v h' s r q P=>by
 obtain⟨xs,h1,e1,q⟩:=bind_eq.mp q;exact ha ρ h H e σ _ _ _ s r e1 λus ρ1 H1 g1 z1 r1=>ho ρ1 h1 H1 xs us Q v h' z1 r1 q (P.gr g1)
theorem Fz{id}(hc:cC X pg k-> ∃ r,bj X (.builtin id) r/\zr X.K r f)(hg:Gl X x)(hb:x∈gy)(hv:Vy x=TK (.builtin id))(ha:JA X pg k (e::es) mr)
  (hn:x≠ "__name__" :=by decide) (hdb:(x == ("__debug__"))=false:=by decide) (he:noStar e=true:=by rfl) (hpl:es.all noStar=true:=by rfl):JE X pg k (.Call (.Name x p) (e::es) [] pos) (eB f mr):=⟨λA =>
 by obtain⟨_,q1,s1⟩:=ha.h A;exact by obtain⟨_,q,s⟩:=hc A;exact⟨_,qB q hg (A.blt x hb) hv q1 hn hdb he hpl,Qu s s1⟩⟩
theorem GJ(hc:cC X pg k-> ∃ r,bj X (.type T) r/\zr X.K r f)(hg:Gl X x)(hb:x∈gy)(hv:Vy x=TK (.type T))(ha:JA X pg k (e::es) mr)
  (hn:x≠ "__name__" :=by decide) (hdb:(x == ("__debug__"))=false:=by decide) (he:noStar e=true:=by rfl) (hpl:es.all noStar=true:=by rfl):JE X pg k (.Call (.Name x p) (e::es) [] pos) (eB f mr):=⟨λA =>
 by obtain⟨_,q1,s1⟩:=ha.h A;exact by obtain⟨_,q,s⟩:=hc A;exact⟨_,qT q hg (A.blt x hb) hv q1 hn hdb he hpl,Qu s s1⟩⟩
theorem Am{id}(pa:YW T)(slot:Slot T name id)(hty:aaZ (.builtin id)=pure (.type "method_descriptor"))(hm:cC X pg k-> ∃ r,vz X id r/\Hu X.K T r f ty)
  (ho:JE X pg k d md) (ha:JA X pg k [e] mr) (hbase:VQ d name X.env (Vl d X.env)=Vl d X.env:=by rfl) (hline:(apos.endLine == cpos.line)=true:=by rfl) (hs:noStar e=true:=by rfl) :
  JE X pg k (.Call (.Attribute d name apos) [e] [] cpos) (eM f ty md mr):=⟨λA =>
 by obtain⟨_,q0,s0⟩:=ho.h A;exact by obtain⟨_,q1,s1⟩:=ha.h A;exact by obtain⟨_,q,s⟩:=hm A;exact⟨_,Hf pa slot hty q q0 q1 hbase hline hs,fun ρ h H e σ Q v h' z r q P=>by
  obtain⟨x,h1,e1,q⟩:=bind_eq.mp q;refine s0 ρ h H e σ _ _ _ z r e1 λx' ρ1 H1 g1 z1 r1=>?_;split at q
  . rename_i ht;obtain⟨xs,h2,e2,q⟩:=bind_eq.mp q;refine⟨s.1 ρ1 h1 H1 x x' z1 r1 ht,?_⟩;exact s1 ρ1 h1 H1 e σ _ _ _ z1 (r.gr g1) e2 λus ρ2 H2 g2 z2 r2=>s.2 ρ2 h2 H2 x x' xs us Q v h' z2 (rel.gr g2 _ _ r1) r2 q (P.gr (g1.trans g2))
  . simp_all⟩⟩
theorem ui{K}(ho:kZ K r f)(ho':kZ K r' g)(ha:SE cf K ta ma)(hb:SE cf K tb mb)(hc:SE cf K tc mc):SE cf K (nN r r' ta tb tc) (kE f g ma mb mc):=fun ρ h H e σ Q v h' s r q P=>by
 obtain⟨x,h1,e1,q⟩:=bind_eq.mp q;obtain⟨y,h2,e2,q⟩:=bind_eq.mp q;obtain⟨z,h3,e3,q⟩:=bind_eq.mp q;obtain⟨z0,h4,e4,e5⟩:=bind_eq.mp e3;obtain⟨rfl,rfl⟩:=oS.mp e5;refine ha ρ h H e σ _ x h1 s r e1 λx' ρ1 H1 g1 s1 r1=>?_;refine hb ρ1 h1 H1 e σ _ y h2 s1 (r.gr g1) e2 λy' ρ2 H2 g2 s2 r2=>?_;refine ho ρ2 h2 H2 x y x' y' _ _ _ s2 (rel.gr g2 _ _ r1) r2 e4 λz' ρ3 H3 g3 s3 r3=>?_;refine⟨z,r3,?_⟩;cases z with
 | true =>
  obtain⟨w,h5,e5,q⟩:=bind_eq.mp q
  refine hc ρ3 _ H3 e σ _ w h5 s3 (r.gr ((g1.trans g2).trans g3)) e5 λw' ρ4 H4 g4 s4 r4=>?_
  exact ho' ρ4 h5 H4 y w y' w' Q v h' s4 (rel.gr (g3.trans g4) _ _ r2) r4 q (P.gr (((g1.trans g2).trans g3).trans g4))
 | false=>cases q;exact P _ ρ3 H3 ((g1.trans g2).trans g3) s3 (by rw[rel])
theorem zu(ho:cC X pg k-> ∃ r,cT X (UJ op) r/\kZ X.K r f)(ho':cC X pg k-> ∃ r,cT X (UJ op') r/\kZ X.K r g)(ha:JE X pg k a ma)(hb:JE X pg k b mb)(hc:JE X pg k c mc)
  (hm:Yz [op,op'] [b,c]=false:=by with_unfolding_all rfl):JE X pg k (.Compare a [op,op'] [b,c] pos) (kE f g ma mb mc):=⟨λA =>
 let ⟨_,q1,s1⟩:=ha.h A;let ⟨_,q2,s2⟩:=hb.h A;let ⟨_,q3,s3⟩:=hc.h A;let ⟨_,q,s⟩:=ho A;let ⟨_,q',s'⟩:=ho' A;⟨_,AN q q' q1 q2 q3 hm,ui s s' s1 s2 s3⟩⟩
theorem Ab{op op':CmpOp}{f g:PV->PV->PH->RV PV}(ho:cC X pg k-> ∃ r,cT X (UJ op) r/\kZ X.K r f)(ho':cC X pg k-> ∃ r,cT X (UJ op') r/\kZ X.K r g)(ha:JE X pg k a ma)(hb:JE X pg k b mb)(hc:JE X pg k c mc)
  (hm:Yz [op,op'] [b,c]=false:=by with_unfolding_all rfl):JT X pg k (.Compare a [op,op'] [b,c] pos) (aX (kE f g ma mb mc)):=⟨λA =>
 let ⟨_,q1,s1⟩:=ha.h A;let ⟨_,q2,s2⟩:=hb.h A;let ⟨_,q3,s3⟩:=hc.h A;let ⟨_,q,s⟩:=ho A;let ⟨_,q',s'⟩:=ho' A;⟨_,AU q q' q1 q2 q3 hm,nL (ui s s' s1 s2 s3)⟩⟩
end
noncomputable def c8:MS:=λ_ e h=> .ok (.nx e) h
def ah(a b:MS):MS:=λc e h=>(a c e h).bind λf h1=>match f with
 | .nx e1=>b c e1 h1
 | f=> .ok f h1
def aC(a:ME):MS:=λc e h=>(a c e h).bind λ_ h1=> .ok (.nx e) h1
def aQ(a:ME):MS:=λc e h=>(a c e h).bind λv h1=> .ok (.rt v) h1
def cX(t:MT)(a b:MS):MS:=λc e h=>(t c e h).bind λx h1=>if x=true then a c e h1 else b c e h1
noncomputable def jx:MS:=λ_ _ _=> .no
def ax(a:ME)(g:MG):MS:=λc e h=>(a c e h).bind λv h1=>(g v e h1).bind λe1 h2=> .ok (.nx e1) h2
noncomputable def gN(i:Nat):MG:=λv e h=> .ok (e.set i (TK v)) h
noncomputable def gT(n:Nat)(g:List PV->az->PH->RV az):MG:=λv e h=>match v.seq? with
 | some xs=>if xs.length=n then g xs e h else .no
 | none=> .no
noncomputable def bE:List PV->az->PH->RV az:=λvs e h=>match vs with
 | []=> .ok e h
 | _=> .no
def ao(g:MG)(r:List PV->az->PH->RV az):List PV->az->PH->RV az:=λvs e h=>match vs with
 | []=> .no
 | v::t=>(g v e h).bind λe1 h1=>r t e1 h1
def rO(f:PV->PV->PV->PH->RV Unit)(o i a:ME):MS:=λc e h=>(a c e h).bind λv h1=>(o c e h1).bind λx h2=>(i c e h2).bind λy h3=>(f x y v h3).bind λ_ h4=> .ok (.nx e) h4
def bh(it:pE)(step:PV->az->PH->RV Fl):List PV->az->PH->RV Fl
 | [],e,h=>if it.iw h=true then .ok (.nx e) h else .no
 | x::xs,e,h=>if it.iw h=true then(step x e h).bind (λf h1=>match f with
   | .nx e1=>bh it step xs e1 h1
   | .ct e1=>bh it step xs e1 h1
   | .bk e1=> .ok (.nx e1) h1
   | .rt v=> .ok (.rt v) h1) else .no
def d6(i:MI)(g:MG)(b:MS):MS:=λc e h=>(i c e h).bind λit h1=>bh it (λx e h=>(g x e h).bind λe1 h1=>b c e1 h1) it.items e h1
def jD(it:pE)(step:PV->PH->RV (Option PV)):List PV->List PV->PH->RV (List PV)
 | [],ys,h=>if it.iw h=true then .ok ys h else .no
 | x::xs,ys,h=>if it.iw h=true/\ys.length < Ub then(step x h).bind (λo h1=>match o with
   | some y=>jD it step xs (ys++[y]) h1
   | none=>jD it step xs ys h1) else .no
def bL k (g:MG) (t:MT) (a:ME) c (e:az) x h:=(g x (e++Ue k TL) h).bind λe2 h2=>(t c e2 h2).bind λb h3=>if b=true then(a c e2 h3).bind (λy h4=> .ok (TK y) h4) else .ok TL h3
def jh(k:Nat)(i:MI)(g:MG)(t:MT)(a:ME):ME:=λc e h=>(i c e h).bind λit h1=>(jD it (bL k g t a c e) it.items [] h1).bind λys h2=> .ok (.ref h2.length) (h2++[.lst ys])
section
variable{X:Cx}{pg:Tb}{k:Nat}{a b c d e o i:UR}{es:List UR}{ma mb mc md mo mi:ME}{mr:MA}{mt mt':MT}{ms ms' mu:MS}{pos p pos' apos cpos spos:Pos}{x y:Str}{st:Xe}{body rest:List Xe}{g:MG}{mI:MI}{tg iter:UR}{gs:List PV->az->PH->RV az}
theorem PQ{c K}:SS c K C1 c8:=fun ρ h H e σ D f h' s r q P=>by cases q;exact P σ ρ H (.refl _ _) s r
theorem LV{c K}(h1:SS c K t ms)(h2:SS c K u mu):SS c K (Ik t u) (ah ms mu):=fun ρ h H e σ D f h' s r q P=>by
 obtain⟨f1,h1',e1,q⟩:=bind_eq.mp q;refine h1 ρ h H e σ _ f1 h1' s r e1 ?_;cases f1 with
 | nx e'=>exact fun σ1 ρ1 H1 g1 s1 r1=>h2 ρ1 h1' H1 e' σ1 D f h' s1 r1 q (P.gr g1)
 | rt v=>cases q;exact P
 | bk e'=>cases q;exact P
 | ct e'=>cases q;exact P
theorem Ga:tV X pg k [] c8:=⟨λA=>⟨_,FR,PQ⟩⟩
theorem Fe(h:JS X pg k st ms):tV X pg k [st] ms:=⟨λA=>by obtain⟨_,q,s⟩:=h.h A;exact⟨_,EG q,s⟩⟩
theorem Bh(h1:JS X pg k st ms)(h2:tV X pg k rest mu):tV X pg k (st::rest) (ah ms mu):=⟨λA=>by obtain⟨_,q1,s1⟩:=h1.h A;exact by obtain⟨_,q2,s2⟩:=h2.h A;exact⟨_,BN q1 q2,LV s1 s2⟩⟩
theorem Fj(ha:JE X pg k e ma)(hs:Wg e TL pos.line X.env=pure false:=by rfl):JS X pg k (.Expr e pos) (aC ma):=⟨λA=>by obtain⟨_,q1,s1⟩:=ha.h A;exact⟨_,GF q1 hs,fun ρ h H e σ D f h' s r q P=>by
 obtain⟨x,h1,e1,q⟩:=bind_eq.mp q;cases q;exact s1 ρ h H e σ _ x _ s r e1 λx' ρ1 H1 g1 z1 r1=>P σ ρ1 H1 g1 z1 (r.gr g1)⟩⟩
theorem J8(ha:JE X pg k e ma):JS X pg k (.Return (TK e) pos) (aQ ma):=⟨λA=>by obtain⟨_,q1,s1⟩:=ha.h A;exact⟨_,Ju q1,fun ρ h H e σ D f h' s r q P=>by
 obtain⟨x,h1,e1,q⟩:=bind_eq.mp q;cases q;exact s1 ρ h H e σ _ x _ s r e1 P⟩⟩
theorem Pe(hc:JT X pg k c mt)(ha:tV X pg k A ms)(hb:tV X pg k B mu):JS X pg k (.If c A B pos) (cX mt ms mu):=⟨λZ =>
 by obtain⟨_,q0,s0⟩:=hc.h Z;exact let ⟨_,q1,s1⟩:=ha.h Z;let ⟨_,q2,s2⟩:=hb.h Z;⟨_,ON q0 q1 q2,fun ρ h H e σ D f h' s r q P=>by
  obtain⟨x,h1,e1,q⟩:=bind_eq.mp q;refine s0 ρ h H e σ _ _ _ s r e1 fun ρ1 H1 g1 z1=>?_;cases x with
  | true=>exact s1 ρ1 _ H1 e σ _ _ _ z1 (r.gr g1) q (P.gr g1)
  | false=>exact s2 ρ1 _ H1 e σ _ _ _ z1 (r.gr g1) q (P.gr g1)⟩⟩
theorem AO:JS X pg k st jx:=⟨λA=>⟨_,⟨Br⟩,fun ρ h H e σ D f h' s r q P=>by cases q⟩⟩
theorem wD{K i}:SG K (fg i) (gN i):=fun ρ h H e σ Q v v' e' h' s r rv q P=>by cases q;exact P _ ρ H (.refl _ _) s (r.set i rv)
theorem DB{i}(hN:X.N.Nodup)(hi:X.N[i]?=TK x)(hx:Loc X.env.scope x)(hf:X.fn x=true\/X.env.scope.names.lookup x=TK .local:=by first | exact .inl rfl | exact .inr rfl | assumption):JG X pg k (.Name x pos) (gN i):=⟨λA=>⟨_,xw hN hi hx hf,wD⟩⟩
structure Qz(X:Cx)(pg:Tb)(k:Nat)(e:List UR)(m:List PV->az->PH->RV az):Prop where
 h:cC X pg k-> ∃ t,LB X e t/\ ∀ ρ h H e σ Q vs us e' h',cB X.K ρ h H->dv X.K ρ H e σ ->ai X.K ρ H vs us->m vs e h= .ok e' h'->fC X.K ρ H e' h' Q->t us σ H Q
theorem ES:Qz X pg k [] bE:=⟨λA=>⟨_,wx,fun ρ h H e σ Q vs us e' h' s r rv q P=>by
 cases vs with
 | nil=>cases q;exact⟨rv,P σ ρ H (.refl _ _) s r⟩
 | cons=>cases q⟩⟩
theorem AK(h1:JG X pg k e g)(h2:Qz X pg k es gs)(hs:(Vs (e::es) X.env).map (·.2)=X0 e X.env::(Vs es X.env).map (·.2):=by rfl):Qz X pg k (e::es) (ao g gs):=⟨λA =>
 by obtain⟨_,q1,s1⟩:=h1.h A;exact by obtain⟨_,q2,s2⟩:=h2.h A;exact⟨_,uG q1 q2 hs,fun ρ h H e σ Q vs us e' h' s r rv q P=>by
 cases vs with
 | nil=>cases q
 | cons v t =>
  obtain⟨w,u,rfl,r1,r2⟩:=ar.mp rv
  obtain⟨e1,h1,e2,q⟩:=bind_eq.mp q
  refine⟨w,u,rfl,?_⟩
  exact s1 ρ h H e σ _ v w e1 h1 s r r1 e2 fun σ1 ρ1 H1 g1 z1 y1=>s2 ρ1 h1 H1 e1 σ1 Q t u e' h' z1 y1 (ai.gr g1 _ _ r2) q (P.gr g1)⟩⟩
theorem Lv{j}(h:Qz X pg k es gs)(hn:(Vs es X.env).length=n:=by rfl)(hst:(Vs es X.env).findIdx? (·.1)=TL:=by rfl):JG X pg k (.Tuple es j pos) (gT n gs):=⟨λA =>
 by obtain⟨_,q1,s1⟩:=h.h A;exact⟨_,zV A.calm q1 hn hst,fun ρ h H e σ Q v v' e' h' s r rv q P=>by
 unfold gT at q
 split at q
 . rename_i xs ex;obtain⟨a,vs,rfl,z,rr⟩:=rel.seq ex rv;split at q
   . rename_i hl;exact⟨a,vs,rfl,z,by rw[<- rr.len];exact hl,s1 ρ h H e σ Q xs vs e' h' s r rr q P⟩
   . nomatch q
 . nomatch q⟩⟩
theorem L0(hN:X.N.Nodup)(hi:X.N[j]?=TK x)(hx:Loc X.env.scope x)(he:JE X pg k e ma)(hs:Wg e (TK (.Name x pos')) pos.line X.env=pure false:=by rfl)(hf:X.fn x=true\/X.env.scope.names.lookup x=TK .local:=by first | exact .inl rfl | exact .inr rfl | assumption) :
  JS X pg k (.Assign [.Name x pos'] e pos) (ax ma (gN j)):=⟨λA=>by obtain⟨_,q1,s1⟩:=he.h A;exact⟨_,II hN hi hx q1 hs hf,fun ρ h H e σ D f h' s r q P=>by
 obtain⟨v,h1,e1,q⟩:=bind_eq.mp q;obtain⟨e2,h2,e3,q⟩:=bind_eq.mp q;cases q;cases e3;exact s1 ρ h H e σ _ v _ s r e1 λv' ρ1 H1 g1 z1 r1=>P _ ρ1 H1 g1 z1 ((r.gr g1).set j r1)⟩⟩
theorem LI(hp:cC X pg k-> ∃ t,pV X t/\ ∀ ρ h H x y v x' y' v' u h' Q,cB X.K ρ h H->rel X.K ρ H x x'->rel X.K ρ H y y'->rel X.K ρ H v v'->f x y v h= .ok u h'->jJ X.K ρ H h' Q->t x' y' v' H Q)
  (ho:JE X pg k o mo) (hi:JE X pg k i mi) (hv:JE X pg k e ma) (hs:ZW [.Subscript o i pos'] e pos.line X.env=pure false:=by rfl) (hw:ZX [.Subscript o i pos'] e X.env=pure TL:=by rfl) (h1:(Vs [.Subscript o i pos'] X.env).map (·.2)=[X0 (.Subscript o i pos') X.env]:=by rfl)
  (ha: ∀ v,X0 (.Subscript o i pos') X.env v=(do
   let ov <- WS [v] (Vl o X.env)
   let iv <- WS [v,ov] (Vl i X.env)
   Yj pos'
   WS [v,ov,iv] (setItem ov iv v)
   release [v,ov,iv] []):=by intro _;rfl):JS X pg k (.Assign [.Subscript o i pos'] e pos) (rO f mo mi ma):=⟨λA =>
 let ⟨_,q0,s0⟩:=hv.h A;let ⟨_,q1,s1⟩:=ho.h A;let ⟨_,q2,s2⟩:=hi.h A;by obtain⟨_,q3,s3⟩:=hp A;exact⟨_,JZ q0 ⟨Md q1.h q2.h q3 ha⟩ hs hw h1,fun ρ h H e σ D f' h' s r q P=>by
 obtain⟨v,h1,e1,q⟩:=bind_eq.mp q
 obtain⟨x,h2,e2,q⟩:=bind_eq.mp q
 obtain⟨y,h3,e3,q⟩:=bind_eq.mp q
 obtain⟨u,h4,e4,q⟩:=bind_eq.mp q
 cases q
 refine s0 ρ h H e σ _ v h1 s r e1 λv' ρ1 H1 g1 z1 r1=>?_
 refine s1 ρ1 h1 H1 e σ _ x h2 z1 (r.gr g1) e2 λx' ρ2 H2 g2 z2 r2=>?_
 refine s2 ρ2 h2 H2 e σ _ y h3 z2 (r.gr (g1.trans g2)) e3 λy' ρ3 H3 g3 z3 r3=>?_
 have g:=(g1.trans g2).trans g3
 exact s3 ρ3 h3 H3 x y v x' y' v' u _ _ z3 (rel.gr g3 _ _ r2) r3 (rel.gr (g2.trans g3) _ _ r1) e4 fun ρ4 H4 g4 z4=>P σ ρ4 H4 (g.trans g4) z4 (r.gr (g.trans g4))⟩⟩
theorem IA(hi:JI X pg k tg iter mI)(hg:JG X pg k tg g)(hb:tV X pg k body ms)(hp:aaC (Uu X.prog X.w) X.A X.env X.xe)(hs: ∀ x,UX iter X.env x=pure x:=by intro _;rfl):JS X pg k (.For tg iter body [] pos) (d6 mI g ms):=⟨λA =>
 by obtain⟨_,q1,s1⟩:=hi.h A;exact by obtain⟨_,q2,s2⟩:=hg.h A;exact by obtain⟨_,q3,s3⟩:=hb.h A;exact⟨_,CL hp A.calm q1 q2 q3 hs,fun ρ h H e σ D f h' s r q P=>by
 obtain ⟨it,h1,e1,q⟩:=bind_eq.mp q
 refine s1 ρ h H e σ _ it h1 s r e1 fun ρ1 H1 J g1 z1 w1=>?_
 let step:=λx e h=>(g x e h).bind λe1 h1=>ms (run pg k) e1 h1
 refine ⟨λi m σ' H'=> ∃ ρ' h2 e',Gr ρ1 H1 ρ' H'∧cB X.K ρ' h2 H'∧dv X.K ρ' H' e' σ'∧i<=it.items.length∧m=it.items.length - i∧bh it step (it.items.drop i) e' h2= .ok f h',⟨_, ρ1,h1,e,.refl _ _,z1,r.gr g1,Vp _,rfl,q⟩,?_⟩
 rintro i m σ2 H2 ⟨ρ2,h2,e2,g2,z2,r2,hi,rfl,q2⟩
 cases hx:it.items[i]? with
 | none =>
  have hl:=WU.mp hx
  rw[VA hl,bh] at q2
  split at q2
  . rename_i hf;cases q2;exact .inl ⟨(w1 i ρ2 _ H2 g2 z2 hf).2 (by omega),P σ2 ρ2 H2 (g1.trans g2) z2 r2⟩
  . cases q2
 | some x =>
  have hlt:=(TR.mp hx).1
  have hd:it.items.drop i=x::it.items.drop (i+1):=by
   rw[VD hlt,(TR.mp hx).2]
  rw[hd,bh] at q2
  split at q2
  . rename_i hf;obtain⟨go,yl⟩:=(w1 i ρ2 _ H2 g2 z2 hf).1 x hx;obtain⟨f3,h3,e3,q3⟩:=bind_eq.mp q2;obtain ⟨e4,h4,e5,q4⟩:=bind_eq.mp e3;refine .inr ⟨go,fun σ' H'=> ∃ ρ' h2 e',Gr ρ1 H1 ρ' H'∧cB X.K ρ' h2 H'∧dv X.K ρ' H' e' σ'∧bh it step (it.items.drop (i+1)) e' h2= .ok f h',?_,?_⟩
    . rintro σ' H' ⟨ρ',h2,e',a1,a2,a3,a4⟩;exact ⟨it.items.length - (i+1),by omega, ρ',h2,e',a1,a2,a3,hlt,rfl,a4⟩
    . intro v H3 hy;obtain ⟨ρ3,g3,z3,r3⟩:=yl v H3 hy;refine s2 ρ3 h2 H3 e2 σ2 _ x v e4 h4 z3 (r2.gr g3) r3 e5 fun σ4 ρ4 H4 g4 z4 r4=>?_;have gg:=(g2.trans g3).trans g4;refine s3 ρ4 h4 H4 e4 σ4 _ f3 h3 z4 r4 q4 ?_;cases f3 with
      | nx e6=>exact fun σ5 ρ5 H5 g5 z5 r5=>⟨ρ5,h3,e6,gg.trans g5,z5,r5,q3⟩
      | ct e6=>exact fun σ5 ρ5 H5 g5 z5 r5=>⟨ρ5,h3,e6,gg.trans g5,z5,r5,q3⟩
      | bk e6=>cases q3;exact fC.gr P (g1.trans gg)
      | rt v=>cases q3;exact dh.gr P (g1.trans gg)
  . simp_all⟩⟩
theorem Hm{K tg}(s1:SI cf K wi mI)(s2:SG K tg g)(s3:ST cf K tt mt)(s4:SE cf K te ma):SE cf K (Rf n wi tg tt te) (jh n mI g mt ma):=fun ρ h H e σ Q v h' s r q P=>by
 obtain⟨it,h1,e1,q⟩:=bind_eq.mp q;obtain ⟨ys,h2,e2,q⟩:=bind_eq.mp q;cases q;refine s1 ρ h H e σ _ it h1 s r e1 fun ρ1 H1 J g1 z1 w1=>?_;refine ⟨λi m us H'=> ∃ ρ' h3 zs,Gr ρ1 H1 ρ' H'∧cB K ρ' h3 H'∧ai K ρ' H' zs us∧i<=it.items.length∧m=it.items.length - i∧jD it (bL n g mt ma cf e) (it.items.drop i) zs h3= .ok ys h2,⟨_, ρ1,h1,[],.refl _ _,z1,bG.mpr rfl,Vp _,rfl,e2⟩,?_⟩;rintro i m us H2 ⟨ρ2,h3,zs,g2,z2,r2,hi,rfl,q2⟩;cases hx:it.items[i]? with
 | none =>
  have hl:=WU.mp hx
  rw[VA hl,jD] at q2
  split at q2
  . rename_i hf;cases q2;exact .inl ⟨(w1 i ρ2 _ H2 g2 z2 hf).2 (by omega),λp hp=>gW z2 r2 (P.gr (g1.trans g2)) p hp⟩
  . cases q2
 | some x =>
  have hlt:=(TR.mp hx).1
  have hd:it.items.drop i=x::it.items.drop (i+1):=by
   rw[VD hlt,(TR.mp hx).2]
  rw[hd,jD] at q2
  split at q2
  . rename_i hf;obtain⟨go,yl⟩:=(w1 i ρ2 _ H2 g2 z2 hf.1).1 x hx;obtain⟨o,h4,e3,q3⟩:=bind_eq.mp q2;obtain⟨e4,h5,e5,q4⟩:=bind_eq.mp e3;obtain⟨b,h6,e6,q5⟩:=bind_eq.mp q4;refine .inr ⟨go,by rw[<- r2.len];exact hf.2,λv H3 hy=>?_⟩;obtain⟨ρ3,g3,z3,r3⟩:=yl v H3 hy;refine s2 ρ3 h3 H3 _ _ _ x v e4 h5 z3 (((r.gr (g1.trans (g2.trans g3)))).more n) r3 e5 fun σ4 ρ4 H4 g4 z4 r4=>?_;refine s3 ρ4 h5 H4 e4 σ4 _ b h6 z4 r4 e6 fun ρ5 H5 g5 z5=>?_;have gg:=((g2.trans g3).trans g4).trans g5;cases b with
    | false=>cases q5;exact ⟨it.items.length - (i+1),by omega, ρ5,_,zs,gg,z5,ai.gr ((g3.trans g4).trans g5) _ _ r2,hlt,rfl,q3⟩
    | true =>
     obtain ⟨y,h7,e7,q6⟩:=bind_eq.mp q5
     cases q6
     refine s4 ρ5 h6 H5 e4 σ4 _ y _ z5 (r4.gr g5) e7 λy' ρ6 H6 g6 z6 r6=>?_
     exact ⟨it.items.length - (i+1),by omega, ρ6,_,zs++[y],gg.trans g6,z6,(ai.gr (((g3.trans g4).trans g5).trans g6) _ _ r2).app (ai.one r6),hlt,rfl,q3⟩
  . simp_all
end
noncomputable def Su(c:CF)(K:TQ)(m:ME):TE:=fun σ H Q=> ∃ ρ h e v h',cB K ρ h H∧dv K ρ H e σ ∧m c e h= .ok v h'∧dh K ρ H v h' Q
noncomputable def S5(c:CF)(K:TQ)(m:MT):TT:=fun σ H Q=> ∃ ρ h e b h',cB K ρ h H/\dv K ρ H e σ /\m c e h= .ok b h'/\jJ K ρ H h' (Q b)
theorem HD{K}:SE c K (Su c K m) m:=fun ρ h H e σ Q v h' s r q P=>⟨ρ,h,e,v,h',s,r,q,P⟩
theorem Hn{K}:ST c K (S5 c K m) m:=fun ρ h H e σ Q v h' s r q P=>⟨ρ,h,e,v,h',s,r,q,P⟩
theorem JE.NF(j:JE X pg k e m)(A:cC X pg k):QE X e (Su (run pg k) X.K m) :=
 by obtain⟨_,q,s⟩:=j.h A;exact⟨λpins st σ H Q I=>by rintro ⟨ρ,h,e,v,h',a,b,c,d⟩;exact q.h pins st σ H Q I (s ρ h H e σ Q v h' a b c d)⟩
theorem JF.NF(j:JF X pg k e m)(A:cC X pg k):QF X e (S5 (run pg k) X.K m) :=
 by obtain⟨_,q,s⟩:=j.h A;exact⟨λpins st σ H Q I=>by rintro ⟨ρ,h,e,v,h',a,b,c,d⟩;exact q.h pins st σ H Q I (s ρ h H e σ Q v h' a b c d)⟩
structure GC(K:TQ)(n:Nat)(t:TG)(m:MG):Prop where
 sg:SG K t m
 gk:GK n t
 mono:vP t
structure QZ(K:TQ)(n:Nat)(t:De)(m:List PV->az->PH->RV az):Prop where
 sg: ∀ ρ h H e σ Q vs us e' h',cB K ρ h H->dv K ρ H e σ ->ai K ρ H vs us->m vs e h= .ok e' h'->fC K ρ H e' h' Q->t us σ H Q
 gk:OM n t
 mono: ∀ xs σ H Q Q',(∀ σ2 H2,Q σ2 H2->Q' σ2 H2)->t xs σ H Q->t xs σ H Q'
theorem Dp{K}(h:n<=i):GC K n (fg i) (gN i):=⟨wD,FE h,vJ⟩
theorem wy{K}:QZ K n xQ bE:=⟨fun ρ h H e σ Q vs us e' h' s r rv q P=>by
 cases vs with
 | nil=>cases q;exact⟨rv,P σ ρ H (.refl _ _) s r⟩
 | cons=>exact(by cases q),Ld,λxs σ H Q Q' f q=>⟨q.1,f _ _ q.2⟩⟩
theorem kc{K}(a:GC K n t m)(b:QZ K n ts ms):QZ K n (lM t ts) (ao m ms):=⟨fun ρ h H e σ Q vs us e' h' s r rv q P=>by
 cases vs with
 | nil=>cases q
 | cons v t =>
  obtain⟨w,u,rfl,r1,r2⟩:=ar.mp rv
  obtain⟨e1,h1,e2,q⟩:=bind_eq.mp q
  refine⟨w,u,rfl,?_⟩
  exact a.sg ρ h H e σ _ v w e1 h1 s r r1 e2 fun σ1 ρ1 H1 g1 z1 y1=>b.sg ρ1 h1 H1 e1 σ1 Q t u e' h' z1 y1 (ai.gr g1 _ _ r2) q (P.gr g1),FX a.gk a.mono b.gk,
 λxs σ H Q Q' f=>by rintro ⟨v,r,e,q⟩;exact⟨v,r,e,a.mono _ _ _ _ _ (fun σ2 H2 z=>b.mono _ _ _ _ _ f z) q⟩⟩
theorem CN{K}(b:QZ K n ts ms):GC K n (vq K j ts) (gT j ms):=⟨fun ρ h H e σ Q v v' e' h' s r rv q P=>by
 unfold gT at q;split at q
 . rename_i xs ex;obtain⟨a,vs,rfl,z,rr⟩:=rel.seq ex rv;split at q
   . rename_i hl;exact⟨a,vs,rfl,z,by rw[<- rr.len];exact hl,b.sg ρ h H e σ Q xs vs e' h' s r rr q P⟩
   . nomatch q
 . exact(nomatch q),LC b.gk,λx σ H Q Q' f=>by rintro ⟨a,xs,e1,e2,e3,q⟩;exact⟨a,xs,e1,e2,e3,b.mono _ _ _ _ _ f q⟩⟩
section
variable{X:Cx}{pg:Tb}{k:Nat}{e tg iter:UR}{ma:ME}{mt:MT}{g:MG}{tG:TG}{mI:MI}{scope:XY}{ifs:List UR}{pos spos py:Pos}{y:Str}
theorem tf vars (hkind:scope.kind= .function) (hlc:hE scope.names X.env.scope.names X.N vars=true) (hi:JI X pg k tg iter mI)
  (hb: ∀ cl C s₀ H₀ ex pn,(cC X pg k->QG (eL X vars scope cl C s₀ H₀ ex pn) tg tG)/\JF (eL X vars scope cl C s₀ H₀ ex pn) pg k ifs mt/\JE (eL X vars scope cl C s₀ H₀ ex pn) pg k e ma) (hG:GC X.K X.N.length tG g)
  (hs: ∀ x,UX iter X.env x=pure x:=by intro _;rfl):JE X pg k (.ListComp e [⟨tg,iter,ifs,0⟩] scope pos) (jh vars.length mI g mt ma):=⟨λA =>
 by obtain⟨_,q1,s1⟩:=hi.h A;exact⟨_,C3 vars A.calm A.lT hkind hlc q1 (λcl C s₀ H₀ ex pn=>by obtain⟨h1,h2,h3⟩:=hb cl C s₀ H₀ ex pn;exact⟨h1 A,h2.NF (A.eL ..),h3.NF (A.eL ..)⟩) hG.gk hs,Hm s1 hG.sg Hn HD⟩⟩
theorem tR vars i (hkind:scope.kind= .function) (hlc:hE scope.names X.env.scope.names X.N vars=true) (hN:X.N.Nodup) (hiy:X.N[i]?=TK y) (hy:Loc X.env.scope y) (hi:JI X pg k tg iter mI)
  (hb: ∀ cl C s₀ H₀ ex pn,(cC X pg k->QG (eL X vars scope cl C s₀ H₀ ex pn) tg tG)/\JF (eL X vars scope cl C s₀ H₀ ex pn) pg k ifs mt/\JE (eL X vars scope cl C s₀ H₀ ex pn) pg k e ma) (hG:GC X.K X.N.length tG g)
  (hsw:Wg (.ListComp e [⟨tg,iter,ifs,0⟩] scope pos) (TK (.Name y py)) spos.line X.env=pure true:=by rfl) (hs: ∀ x,UX iter X.env x=pure x:=by intro _;rfl)
  (hf:X.fn y=true\/X.env.scope.names.lookup y=TK .local:=by first | exact .inl rfl | exact .inr rfl | assumption) :
  JS X pg k (.Assign [.Name y py] (.ListComp e [⟨tg,iter,ifs,0⟩] scope pos) spos) (ax (jh vars.length mI g mt ma) (gN i)):=⟨λA =>
 by obtain⟨_,q1,s1⟩:=hi.h A;exact⟨_,A8 vars i A.calm A.lT hkind hlc hN hiy hy q1 (λcl C s₀ H₀ ex pn=>let ⟨h1,h2,h3⟩:=hb cl C s₀ H₀ ex pn;⟨h1 A,h2.NF (A.eL ..),h3.NF (A.eL ..)⟩) hG.gk hsw hs hf,fun ρ h H e σ D f h' s r q P=>by
  obtain⟨v,h1,e1,q⟩:=bind_eq.mp q;obtain⟨e2,h2,e3,q⟩:=bind_eq.mp q;cases q;cases e3;exact Hm s1 hG.sg Hn HD ρ h H e σ _ v _ s r e1 λv' ρ1 H1 g1 z1 r1=>P _ ρ1 H1 g1 z1 ((r.gr g1).set i r1)⟩⟩
end
section
variable{K:TQ}{ρ ρ':List Uj}{H H':Hp}{h h':PH}
mutual
theorem rel.flat: ∀(x:PV)(v:V),x.flat=true->rel K ρ' H' x v->rel K ρ H' x v
 | .non,v,_,h=>by simpa only[rel] using h
 | .bl _,v,_,h=>by simpa only[rel] using h
 | .int _,v,_,h=>by simpa only[rel] using h
 | .str _,v,_,h=>by simpa only[rel] using h
 | .ty _,v,_,h=>by simpa only[rel] using h
 | .ref n,v,f,h=>by simp[PV.flat] at f
 | .tup xs,v,f,h=>by
  rw[rel] at h ⊢;rw[PV.flat] at f;obtain⟨a,vs,e,s,r⟩:=h;exact⟨a,vs,e,s,ai.flat xs vs f r⟩
 | .ktup xs,v,f,h=>by
  rw[rel] at h ⊢;rw[PV.flat] at f;obtain⟨a,vs,e,s,r⟩:=h;exact⟨a,vs,e,s,ai.flat xs vs f r⟩
theorem ai.flat: ∀(xs:List PV)(vs:List V),PV.aS xs=true->ai K ρ' H' xs vs->ai K ρ H' xs vs
 | [],vs,_,h=>by simpa only[ai] using h
 | x::r,vs,f,h=>by
  rw[ai] at h ⊢;rw[PV.aS,Uw] at f;obtain⟨v,t,e,h1,h2⟩:=h;exact ⟨v,t,e,rel.flat x v f.1 h1,ai.flat r t f.2 h2⟩
end
mutual
theorem rel.dH(g: ∀ (n:Nat) (a:Uj), ρ[n]?=TK a-> ρ'[n]?=TK a): ∀(x:PV)(v:V),x.dH ρ.length=true->rel K ρ' H' x v->rel K ρ H' x v
 | .non,v,_,h=>by simpa only [rel] using h
 | .bl _,v,_,h=>by simpa only [rel] using h
 | .int _,v,_,h=>by simpa only [rel] using h
 | .str _,v,_,h=>by simpa only[rel] using h
 | .ty _,v,_,h=>by simpa only[rel] using h
 | .ref n,v,f,h=>by
  rw[rel] at h ⊢;rw[PV.dH,decide_eq_true_eq] at f;obtain⟨a,e,h⟩:=h;have:=g n _ (UI f);rw[e] at this;exact⟨a,by rw[UI f,<- U0 this],h⟩
 | .tup xs,v,f,h=>by
  rw[rel] at h ⊢;rw[PV.dH] at f;obtain⟨a,vs,e,s,r⟩:=h;exact⟨a,vs,e,s,ai.dH g xs vs f r⟩
 | .ktup xs,v,f,h=>by
  rw[rel] at h ⊢;rw [PV.dH] at f;obtain ⟨a,vs,e,s,r⟩:=h;exact ⟨a,vs,e,s,ai.dH g xs vs f r⟩
theorem ai.dH(g: ∀ (n:Nat) (a:Uj), ρ[n]?=TK a-> ρ'[n]?=TK a): ∀(xs:List PV)(vs:List V),PV.eA ρ.length xs=true->ai K ρ' H' xs vs->ai K ρ H' xs vs
 | [],vs,_,h=>by simpa only [ai] using h
 | x::r,vs,f,h=>by
  rw [ai] at h ⊢;rw[PV.eA,Uw] at f;obtain⟨v,t,e,h1,h2⟩:=h;exact⟨v,t,e,rel.dH g x v f.1 h1,ai.dH g r t f.2 h2⟩
end
mutual
theorem rel.low: ∀(x:PV)(v:V),rel K ρ H x v->x.dH ρ.length=true
 | .non,v,_=>rfl
 | .bl _,v,_=>rfl
 | .int _,v,_=>rfl
 | .str _,v,_=>rfl
 | .ty _,v,_=>rfl
 | .ref n,v,h=>by
  rw[rel] at h;obtain⟨a,e,h⟩:=h;rw[PV.dH,decide_eq_true_eq];exact(TR.mp e).1
 | .tup xs,v,h=>by
  rw[rel] at h;obtain⟨a,vs,e,s,r⟩:=h;rw[PV.dH];exact ai.low xs vs r
 | .ktup xs,v,h=>by
  rw[rel] at h;obtain⟨a,vs,e,s,r⟩:=h;rw[PV.dH];exact ai.low xs vs r
theorem ai.low: ∀(xs:List PV)(vs:List V),ai K ρ H xs vs->PV.eA ρ.length xs=true
 | [],vs,_=>rfl
 | x::r,vs,h=>by
  rw[ai] at h;obtain⟨v,t,e,h1,h2⟩:=h;rw[PV.eA,rel.low x v h1,ai.low r t h2];rfl
end
theorem Paired.low{κ :Type}: ∀{kvs:List (κ × PV)}{kws:List (κ × V)},V7 (λ(p: κ × PV) (q: κ × V)=>p.1=q.1/\rel K ρ H p.2 q.2) kvs kws->PV.eA ρ.length (kvs.map (·.2))=true
 | _,_,.nil=>rfl
 | _,_,.cons r t=>by rw[T9,PV.eA,rel.low _ _ r.2,Paired.low t];rfl
theorem kR.low{a:Uj}: ∀{o:PO},kR K ρ H a o->o.dH ρ.length=true
 | .lst xs,⟨vs,_,r⟩=>ai.low _ _ r
 | .jW xs,⟨vs,_,r⟩=>ai.low _ _ r
 | .dct kvs,⟨kws,_,r⟩=>Paired.low r
 | .obj C fs,⟨dx,fws,_,r⟩=>Paired.low r
theorem Paired.dH{κ :Type}(g: ∀ (n:Nat) (a:Uj), ρ[n]?=TK a-> ρ'[n]?=TK a): ∀{kvs:List (κ × PV)}{kws:List (κ × V)},PV.eA ρ.length (kvs.map (·.2))=true ->
  V7 (λ(p: κ × PV) (q: κ × V)=>p.1=q.1∧rel K ρ' H' p.2 q.2) kvs kws->V7 (λ(p: κ × PV) (q: κ × V)=>p.1=q.1∧rel K ρ H' p.2 q.2) kvs kws
 | _,_,_,.nil=> .nil
 | _,_,f,.cons r t=>by
  rw [T9,PV.eA,Uw] at f;exact .cons ⟨r.1,rel.dH g _ _ f.1 r.2⟩ (Paired.dH g f.2 t)
theorem kR.dH(g: ∀ (n:Nat) (a:Uj), ρ[n]?=TK a-> ρ'[n]?=TK a){a:Uj}: ∀{o:PO},o.dH ρ.length=true->kR K ρ' H' a o->kR K ρ H' a o
 | .lst xs,f,⟨vs,e,r⟩=>⟨vs,e,ai.dH g _ _ f r⟩
 | .jW xs,f,⟨vs,e,r⟩=>⟨vs,e,ai.dH g _ _ f r⟩
 | .dct kvs,f,⟨kws,e,r⟩=>⟨kws,e,Paired.dH g f r⟩
 | .obj C fs,f,⟨dx,fws,e,r⟩=>⟨dx,fws,e,Paired.dH g f r⟩
theorem cB.drop(s:cB K ρ h H)(g:Gr ρ H ρ' H')(s':cB K ρ' h' H')(ok:bF h.length h h'=true):cB K ρ (h'.take h.length) H':=by
 have old: ∀{i:Nat}{o:PO},(h'.take h.length)[i]?=TK o->i < h.length/\h'[i]?=TK o:=λ{i o} e=>by
  have hi:i < h.length:=by
   have:=(TR.mp e).1;rw[UY] at this;omega
  rw[aah,if_pos hi] at e;exact⟨hi,e⟩
 refine⟨by rw[UY,s.len,Zh (pq ok)],λi j a oi oj ei ej mi mj ri rj=>?_,λi o a e ea=>?_⟩
 . exact s'.nd i j a oi oj (old ei).2 (old ej).2 mi mj (g.pre _ _ ri) (g.pre _ _ rj)
 . have r:=s'.ob i o a (old e).2 (g.pre _ _ ea);obtain⟨o0,e0,_,z⟩:=kK ok e;refine kR.dH g.pre ?_ r;rcases z with z | z
   . subst z;exact(s.ob i o0 a e0 ea).low
   . rw[s.len];exact z
theorem lW(s:cB K ρ h H)(e:settle h v h'= .ok w h2)(P:dh K ρ H w h2 Q):dh K ρ H v h' Q:=by
 unfold settle at e;split at e
 . rename_i ok;rw[Uw] at ok;cases e;exact λv' ρ' H' g s' r=>P v' ρ H' ⟨λ_ _ z=>z,g.tup,g.je⟩ (s.drop g s' ok.2) (rel.flat _ _ ok.1 r)
 . simp_all
end
theorem oQ{K}: ∀{args vs},ai K ρ H args vs-> ∀ n,dv K ρ H (args.map TK++Ue n TL) (vs.map TK++Ue n TL)
 | args,vs,r,n=>by
  have:dv K ρ H (args.map TK) (vs.map TK):=⟨by simp[r.len],λi v e=>by
   rw[U1] at e;cases q:args[i]? with
   | none=>simp_all
   | some w =>
    rw[q] at e
    cases e
    obtain⟨v',e1,e2⟩:=r.get q
    exact⟨v',by simp_all,e2⟩⟩
  exact this.more n
structure iU(P:UP)(w:U6)(K:TQ)(mg:Str->Option TY)(base:Vx)(pg:Tb)(f:String)(d:Df):Prop where
 ex: ∃(st:Xe)(N:List Str),At K mg (TU f) st/\cE N d.ps (aj st)/\N.length=d.ps.length+d.nl /\
  (∀(kV doc pm:TY)(an:Option Uj)(cdv ct:TY)(us:List TY),us.length=d.ps.length->Wc (U2 (TU f) (TU f) (bD st) (aG st) (aj st) .none kV doc pm an cdv ct) ⟨us,[]⟩=pure (d.ps.zip us)) /\
  ∀(fa:Uj)(cdv:TY)(A:Vk)(outer:List Env)(s:Ua)(H:Hp)(E:XK)(k:Nat),tV (gj mV P w K mg base N (TU f) (aj st) fa cdv A outer s H E).lT pg k (aG st) d.body
structure AZ(P:UP)(w:U6)(K:TQ)(mg:Str->Option TY)(base:Vx)(pg:Tb)(fn c:String)(m:Str)(d:Df):Prop where
 no:pg.fns fn=TL
 ex: ∃(st:Xe)(N:List Str),(∀ q,pg.adr c=TK q-> ∃ fa fd,vI K m (TU fn) st fa fd/\Meth K q.1 m fa)/\cE N d.ps (aj st)/\N.length=d.ps.length+d.nl /\
  (∀(kV doc pm:TY)(an:Option Uj)(cdv ct:TY)(us:List TY),us.length=d.ps.length->Wc (U2 m (TU fn) (bD st) (aG st) (aj st) .none kV doc pm an cdv ct) ⟨us,[]⟩=pure (d.ps.zip us)) /\
  ∀(fa:Uj)(cdv:TY)(A:Vk)(outer:List Env)(s:Ua)(H:Hp)(E:XK)(k:Nat),tV (gj mV P w K mg base N (TU fn) (aj st) fa cdv A outer s H E).lT pg k (aG st) d.body
structure Top(P:UP)(w:U6)(K:TQ)(mg:Str->Option TY)(pg:Tb):Prop where
 blt: ∀ x∈gy,mg x=TL
 con: ∀ x v,pg.con x=TK v-> ∃ u v',mg x=TK u/\RelV v' u/\yJ K v'/\ ∀ ρ H,rel K ρ H v v'
 sJ: ∀ x kvs,pg.sJ x=TK kvs-> ∃ a kws,mg x=TK (.ref a)/\KD P w K a kws/\ ∀ ρ H,V7 (λ(p:Key × PV) (q:Key × V)=>p.1=q.1/\rel K ρ H p.2 q.2) kvs kws
 ct:L7 K mg pg
 mg: ∀ base fn c m d,pg.qE fn=TK (c,m,d)->AZ P w K mg base pg fn c m d
section
variable {P:UP} {w:U6} {K:TQ} {mg:Str->Option TY} {base:Vx} {pg:Tb}
theorem nK{k : Nat}{f : String}{d : Df}(hf : pg.df f = TK d){args : List PV}{h h' : PH}{v : PV}(q : run pg (k + 1) f args h = .ok v h') : args.length = d.ps.length ∧
    ((∃ w h2, d.body (run pg k) (args.map TK ++ Ue d.nl TL) h = .ok (.rt w) h2 /\ settle h w h2 = .ok v h') ∨
     (∃ e h2, d.body (run pg k) (args.map TK ++ Ue d.nl TL) h = .ok (.nx e) h2 /\ settle h .non h2 = .ok v h')) := by
  rw [run, hf] at q;simp only at q;split at q
  . rename_i hn;refine ⟨hn, ?_⟩;split at q
    . rename_i w h2 e; exact .inl ⟨w, h2, e, q⟩
    . rename_i e' h2 e; exact .inr ⟨e', h2, e, q⟩
    . nomatch q
    . nomatch q
    . nomatch q
  . nomatch q
theorem kY{k:Nat}{f:String}{d:Df}(hf:pg.df f=TK d){N:List Str}(hl:N.length=d.ps.length+d.nl){t:TS}(st:SS (run pg k) K t d.body){vs:List V}{H:Hp}{Q:VK}{E:XK}(h:jQ K pg (k+1) f vs H Q E):t { nx:=λ_ H'=>Q .non H',rt:=Q} (L2.start N vs) H:=by
 obtain⟨ρ,h,args,v,h',sm,r,q,post⟩:=h;obtain⟨hn,q⟩:=nK hf q;have he:L2.start N vs=vs.map TK++Ue d.nl TL:=by
  unfold L2.start;rw[hl,<- r.len,hn,Nat.add_sub_cancel_left]
 rw[he];rcases q with⟨w,h2,e,q⟩ | ⟨e',h2,e,q⟩
 . exact st ρ h H _ _ _ _ h2 sm (oQ r _) e (lW sm q post)
 . exact st ρ h H _ _ _ _ h2 sm (oQ r _) e fun σ' ρ' H' g s' _=>lW sm q post .non ρ' H' g s' (by rw[rel])
theorem yb(T:Top P w K mg pg)(G: ∀ f d,pg.fns f=TK d->iU P w K mg base pg f d): ∀ k,(∀ f d,pg.fns f=TK d->lQ P w K mg base (TU f) k d.ps (jQ K pg k f))/\ ∀ j,j<=k->Og P w K mg base pg j:=by
 have len: ∀{k:Nat}{f:String}{d:Df},pg.df f=TK d-> ∀ vs H Q E,jQ K pg (k+1) f vs H Q E->vs.length=d.ps.length:=λhd vs H Q E ⟨ρ,h,args,v,h',_,r,q,_⟩=>by rw[<- r.len];exact(nK hd q).1
 have no0: ∀ f vs H Q E,¬ jQ K pg 0 f vs H Q E:=λf vs H Q E ⟨ρ,h,args,v,h',_,_,q,_⟩=>nomatch q;intro k
 induction k with
 | zero =>
  refine⟨λf d hf=>?_,λj hj fn c m d hm=>?_⟩
  . obtain⟨st,N,a,S,hl,hb,body⟩:=(G f d hf).ex;exact At.zf a hb (no0 f)
  . obtain⟨no,st,N,a,S,hl,hb,body⟩:=T.mg base fn c m d hm;refine⟨no,λq hq=>?_⟩;obtain⟨fa,fd,F,me⟩:=a q hq;cases Nat.le_zero.mp hj;exact⟨fa,fd,me,⟨λvs H Q E h=>absurd h (no0 fn vs H Q E),λA outer s H args us vs Q E _ _ _ _ h=>absurd h (no0 fn vs H Q E)⟩,F.binds hb⟩
 | succ k ih =>
  refine⟨λf d hf=>?_,λj hj fn c m d hm=>?_⟩
  . obtain⟨st,N,a,S,hl,hb,body⟩:=(G f d hf).ex;refine At.QX a S hb (len (sZ hf)) ?_;intro fa cdv A outer s H vs Q E hr h;have amb:cC (gj mV P w K mg base N (TU f) (aj st) fa cdv A outer s H E).lT pg k:=⟨hr,rfl,λ_ _ z=>z,ih.1,T.blt,T.con,T.sJ,T.ct,ih.2⟩
    obtain⟨t,qt,st'⟩:=(body fa cdv A outer s H E k).h amb;exact⟨t,qt,kY (sZ hf) hl st' h⟩
  . rcases Nat.lt_or_eq_of_le hj with z | z
    . exact ih.2 j (Nat.le_of_lt_succ z) fn c m d hm
    . subst z;obtain⟨no,st,N,a,S,hl,hb,body⟩:=T.mg base fn c m d hm;refine⟨no,λq hq=>?_⟩;obtain⟨fa,fd,F,me⟩:=a q hq;have hd:pg.df fn=TK d:=by unfold Tb.df;rw[no,hm];rfl
      refine⟨fa,fd,me,vI.QX F S (len hd) λfa cdv A outer s H vs Q E hr h=>?_,F.binds hb⟩;have amb:cC (gj mV P w K mg base N (TU fn) (aj st) fa cdv A outer s H E).lT pg k:=⟨hr,rfl,λ_ _ z=>z,ih.1,T.blt,T.con,T.sJ,T.ct,ih.2⟩
      obtain⟨t,qt,st'⟩:=(body fa cdv A outer s H E k).h amb;exact⟨t,qt,kY hd hl st' h⟩
end
def p2(f:Int->Int->RV PV):PV->PV->PH->RV PV:=λx y h=>match x,y with
 | .int i,.int j=>(f i j).bind λv _=> .ok v h
 | _,_=> .no
noncomputable def Dc(v:PV):RV PV:= .ok v []
section
variable{K:TQ}{X:Cx}{pg:Tb}{k:Nat}
theorem Mt(hf: ∀ i j v h,f i j= .ok v h->C i j/\ ∀ ρ H,rel K ρ H v (g i j)):kZ K (rI C g) (p2 f):=fun ρ h H x y x' y' Q v h' s rx ry q P=>by
 unfold p2 at q;split at q
 . rename_i i j;obtain⟨w,h0,e,q⟩:=bind_eq.mp q;cases q;obtain⟨hc,hr⟩:=hf i j v h0 e;exact⟨i,j,rx,ry,hc,P _ ρ H (.refl _ _) s (hr ρ H)⟩
 . cases q
theorem tq(hf: ∀ i j v h,f i j= .ok v h-> ∀ ρ H,rel K ρ H v (g i j)):kZ K (Cp g) (p2 f):=fun ρ h H x y x' y' Q v h' s rx ry q P=>by
 unfold p2 at q;split at q
 . rename_i i j;obtain⟨w,h0,e,q⟩:=bind_eq.mp q;cases q;exact⟨i,j,rx,ry,P _ ρ H (.refl _ _) s (hf i j v h0 e ρ H)⟩
 . cases q
def sQ:=p2 λi j=>Dc (.int (i - j))
def g9:=p2 λi j=>if 0 < j then Dc (.int (i % j)) else .no
def DF:=p2 λi j=>if 0<=j/\j<=1000000/\i.natAbs < 2 ^ 64 then Dc (.int (i ^ j.toNat)) else .no
def FT:=p2 λi j=>Dc (.bl (decide (i < j)))
def He:=p2 λi j=>Dc (.bl (decide (i<=j)))
def An:=p2 λi j=>Dc (.bl (decide (j < i)))
def Q6:=p2 λi j=>Dc (.bl (decide (j<=i)))
noncomputable def CS:PV->PH->RV PV:=λx h=>match x with
 | .int i=> .ok (.int (-i)) h
 | _=> .no
theorem Oc:cC X pg k-> ∃ r,cT X (VC .Sub) r/\kZ X.K r sQ:=λ_=>⟨_,M0,tq λi j v h e ρ H=>by cases e;rw[rel]⟩
theorem NV:cC X pg k-> ∃ r,cT X (VC .Mod) r/\kZ X.K r g9:=λ_=>⟨_,Mv,Mt λi j v h e=>by
 split at e
 . cases e;exact⟨by assumption,fun ρ H=>by rw[rel]⟩
 . cases e⟩
theorem Nl:cC X pg k-> ∃ r,cT X (VC .Pow) r/\kZ X.K r DF:=λ_=>⟨_,MZ,Mt λi j v h e=>by
 split at e
 . cases e;exact⟨by assumption,fun ρ H=>by rw[rel]⟩
 . cases e⟩
theorem Sb:cC X pg k-> ∃ r,cT X (UJ .Lt) r/\kZ X.K r FT:=λ_=>⟨_,P5,tq λi j v h e ρ H=>by cases e;rw[rel]⟩
theorem Rr:cC X pg k-> ∃ r,cT X (UJ .LtE) r/\kZ X.K r He:=λ_=>⟨_,PL,tq λi j v h e ρ H=>by cases e;rw[rel]⟩
theorem R6:cC X pg k-> ∃ r,cT X (UJ .Gt) r/\kZ X.K r An:=λ_=>⟨_,OK,tq λi j v h e ρ H=>by cases e;rw[rel]⟩
theorem Sq:cC X pg k-> ∃ r,cT X (UJ .GtE) r/\kZ X.K r Q6:=λ_=>⟨_,O3,tq λi j v h e ρ H=>by cases e;rw[rel]⟩
theorem N4:cC X pg k-> ∃ r,Nd X (aaT .USub) r/\ ∀ ρ h H x x' Q v h',cB X.K ρ h H->rel X.K ρ H x x'->CS x h= .ok v h'->dh X.K ρ H v h' Q->r x' H Q:=λ_=>⟨_,J5,fun ρ h H x x' Q v h' s rx q P=>by
 cases x with
 | int i =>
  rw[rel] at rx
  cases q
  exact⟨_,rx,P _ ρ H (.refl _ _) s (by rw[rel])⟩
 | _=>nomatch q⟩
def CC(xs:List PV)(h:PH):RV PV:=iT xs.length (.ok (.ref h.length) (h++[.lst xs]))
def aA:PV->PV->PH->RV PV:=λx y h=>match x,y with
 | .int i,.int j=> .ok (.int (i+j)) h
 | .str a,.str b=>iT (a.length+b.length) (.ok (.str (a++b)) h)
 | .tup xs,.tup ys=>iT (xs.length+ys.length) (.ok (.tup (xs++ys)) h)
 | .ref n,.ref m=>(match h[n]?,h[m]? with
  | some (.lst xs),TK (.lst ys)=>CC (xs++ys) h
  | _,_=> .no)
 | _,_=> .no
theorem cB.lst{ρ h H}(s:cB K ρ h H){n xs}(e:h[n]?=TK (.lst xs)){v}(r:rel K ρ H (.ref n) v): ∃ a vs,v= .ref a/\ ρ[n]?=TK a/\H a=TK (.lst vs)/\ai K ρ H xs vs:=by
 obtain⟨a,ea,rfl⟩:=r;obtain⟨vs,e1,e2⟩:=s.ob n _ a e ea;exact⟨a,vs,rfl,ea,e1,e2⟩
theorem cB.jW(s:cB K ρ h H)(e:h[n]?=TK (.jW xs))(r:rel K ρ H (.ref n) v): ∃ a vs,v= .ref a/\ ρ[n]?=TK a/\fA K H a vs/\ai K ρ H xs vs:=by
 obtain⟨a,ea,rfl⟩:=r;obtain⟨vs,e1,e2⟩:=s.ob n _ a e ea;exact⟨a,vs,rfl,ea,e1.sq,e2⟩
noncomputable def bp(h:PH)(n:Nat):Option (List PV):=match h[n]? with
 | some (.lst xs)=>TK xs
 | some (.jW xs)=>TK xs
 | _=>TL
theorem cB.sq(s:cB K ρ h H)(e:bp h n=TK xs)(r:rel K ρ H (.ref n) v): ∃ a vs,v= .ref a/\ ρ[n]?=TK a/\fA K H a vs/\ai K ρ H xs vs:=by
 unfold bp at e;split at e
 . cases e;obtain⟨a,vs,e1,e2,e3,e4⟩:=s.lst (by assumption) r;exact⟨a,vs,e1,e2,.of e3,e4⟩
 . cases e;exact s.jW (by assumption) r
 . cases e
theorem mR(s:cB K ρ h H)(r:ai K ρ H xs us)(P:dh K ρ H (.tup xs) h Q) p (hp:H p=TL):Q (.ref p) (upd H p (.tup us)):=by
 refine P _ ρ _ (Gr.pR hp) (s.tup hp) ?_;exact⟨p,us,rfl,aI,ai.gr (Gr.pR hp) _ _ r⟩
theorem OT:cC X pg k-> ∃ r,cT X (VC .Add) r/\kZ X.K r aA:=λ_=>⟨_,ML,fun ρ h H x y x' y' Q v h' s rx ry q P=>by
 unfold aA at q;split at q
 . cases q;exact .inl ⟨_,_,rx,ry,P _ ρ H (.refl _ _) s (by rw[rel])⟩
 . obtain⟨hl,q⟩:=iC.mp q;cases q;exact .inr (.inr (.inr (.inr ⟨_,_,rx,ry,hl,P _ ρ H (.refl _ _) s (by rw[rel])⟩)))
 . rename_i xs ys;obtain⟨hl,q⟩:=iC.mp q;cases q;have ry':=ry;obtain⟨a,us,e1,e2,e3⟩:=rx;obtain⟨b,ws,d1,d2,d3⟩:=ry;cases xs with
   | nil =>
    subst e3
    exact .inr (.inr (.inr (.inl ⟨a,b,ws,e1,d1,.of e2,.of d2,d1 ▸ P y' ρ H (.refl _ _) s ry'⟩)))
   | cons x r =>
    refine .inr (.inr (.inl ⟨a,b,us,ws,e1,d1,.of e2,.of d2,?_,by rw[<- e3.len,<- d3.len];exact hl,?_⟩))
    . rintro rfl;have:=e3.len;simp at this
    . refine⟨λz=>?_,λ_ p hp=>mR s (e3.app d3) P p hp⟩;subst z;have:=XC d3.len;subst this;rw[Ui] at P;exact P _ ρ H (.refl _ _) s (by exact⟨a,us,rfl,e2,e3⟩)
 . split at q
   . rename_i h1 h2;obtain⟨hl,q⟩:=iC.mp q;cases q;obtain⟨a,us,rfl,_,e1,e2⟩:=s.lst h1 rx;obtain⟨b,ws,rfl,_,d1,d2⟩:=s.lst h2 ry;refine .inr (.inl ⟨a,b,us,ws,rfl,rfl,e1,d1,?_,λp hp=>gW s (e2.app d2) P p hp⟩);rw[<- e2.len,<- d2.len];simpa using hl
   . nomatch q
 . nomatch q⟩
noncomputable def bt(kvs:List (Key × PV)) k:=(kvs.find? λkv=>decide (kv.1=k)).map (·.2)
noncomputable def iL kvs (k:Key) (v:PV) :=
 if (kvs.any λkv=>decide (kv.1=k))=true then kvs.map (λkv=>if kv.1=k then(kv.1,v) else kv) else kvs++[(k,v)]
noncomputable def ka:PV->Option Key
 | .int i=>TK (.inl i)
 | .str x=>TK (.inr x)
 | _=>TL
theorem fq{k}(e:ka x=TK k)(r:rel K ρ H x v):v=kV k:=by
 cases x<;>simp only[ka,reduceCtorEq,Ym] at e<;>(subst e;exact r)
abbrev RK(K:TQ)(ρ :List Uj)(H:Hp)(kvs:List (Key × PV))(kws:List (Key × V)):Prop:=V7 (λ(p:Key × PV) (q:Key × V)=>p.1=q.1/\rel K ρ H p.2 q.2) kvs kws
theorem RK.val: ∀{kvs kws} k,RK K ρ H kvs kws->match bt kvs k,fk kws k with
  | some x,TK v=>rel K ρ H x v
  | none,TL=>True
  | _,_=>False
 | _,_,k,.nil=>trivial
 | _,_,k,.cons (a:=p) (b:=q) r t=>by
  have ih:=RK.val k t;unfold bt fk at ih ⊢;rw[aaR,aaR,<- r.1];by_cases e:p.1=k
  . simp only[e,decide_true];exact r.2
  . simp only[e,decide_false];exact ih
theorem RK.some{k}(r:RK K ρ H kvs kws)(e:bt kvs k=TK x): ∃ v,fk kws k=TK v/\rel K ρ H x v:=by
 have:=RK.val k r;rw[e] at this;cases q:fk kws k with
 | none=>rw[q] at this;exact VG this
 | some v=>rw[q] at this;exact⟨v,rfl,this⟩
theorem RK.is k (r:RK K ρ H kvs kws):(fk kws k).isSome=(bt kvs k).isSome:=by
 have:=RK.val k r;cases p:bt kvs k<;>cases q:fk kws k<;>rw[p,q] at this<;>first | rfl | exact VG this
theorem RK.len(r:RK K ρ H kvs kws):kvs.length=kws.length:=Xw r
theorem RK.any: ∀{kvs kws} k,RK K ρ H kvs kws->(kws.any λkv=>decide (kv.1=k))=kvs.any λkv=>decide (kv.1=k)
 | _,_,k,.nil=>rfl
 | _,_,k,.cons (a:=p) (b:=q) r t=>by rw[Wa,Wa,RK.any k t,r.1]
theorem RK.Bk{k}(h:rel K ρ H x v): ∀{kvs kws},RK K ρ H kvs kws->RK K ρ H (kvs.map λkv=>if kv.1=k then(kv.1,x) else kv) (kws.map λkv=>if kv.1=k then(kv.1,v) else kv)
 | _,_,.nil=> .nil
 | _,_,.cons (a:=p) (b:=q) a t=> .cons (by
   show(if p.1=k then(p.1,x) else p).1=(if q.1=k then(q.1,v) else q).1/\rel K ρ H (if p.1=k then(p.1,x) else p).2 (if q.1=k then(q.1,v) else q).2;rw[<- a.1];split
   . exact⟨rfl,h⟩
   . exact a) (RK.Bk h t)
theorem RK.snoc{k}(h:rel K ρ H x v): ∀{kvs kws},RK K ρ H kvs kws->RK K ρ H (kvs++[(k,x)]) (kws++[(k,v)])
 | _,_,.nil=> .cons ⟨rfl,h⟩ .nil
 | _,_,.cons a t=> .cons a (RK.snoc h t)
theorem RK.put{k}(r:RK K ρ H kvs kws)(h:rel K ρ H x v):RK K ρ H (iL kvs k x) (putK kws k v):=by
 unfold iL putK;rw[RK.any k r];split
 . exact RK.Bk h r
 . exact RK.snoc h r
def bu:PV->PV->PH->RV PV:=λx y h=>match x with
 | .tup xs=>(match y with
  | .int i=>(match gA xs i with | some v=> .ok v h | none=> .no)
  | _=> .no)
 | .ktup xs=>(match y with
  | .int i=>(match gA xs i with | some v=> .ok v h | none=> .no)
  | _=> .no)
 | .str z=>(match y with
  | .int i=>iT z.length (match gA z.cps.toList i with | some c=> .ok (.str ⟨#[c]⟩) h | none=> .no)
  | _=> .no)
 | .ref n=>(match h[n]? with
  | some (.dct kvs)=>(match ka y with
   | some k=>(match bt kvs k with | some v=> .ok v h | none=> .no)
   | none=> .no)
  | some (.lst xs)=>(match y with
   | .int i=>(match gA xs i with | some v=> .ok v h | none=> .no)
   | _=> .no)
  | some (.jW xs)=>(match y with
   | .int i=>(match gA xs i with | some v=> .ok v h | none=> .no)
   | _=> .no)
  | _=> .no)
 | _=> .no
theorem ai.at(r:ai K ρ H xs vs)(e:gA xs i=TK x): ∃ v,gA vs i=TK v/\rel K ρ H x v:=by
 unfold gA at e ⊢;rw[<- r.len];cases q:vQ xs.length i with
 | none=>simp_all
 | some j =>
  rw [q] at e
  exact r.get e
noncomputable def To:R2:=λx y H Q=> ∃ a v,x= .ref a∧mH H a y (TK v)∧Q v H
theorem zc(hu : X.A.units + 1 < X3) : yF X To := by
  intro value slice pins s σ H x y v u Q I rx ry h hs;obtain ⟨a, w, rfl, g, q⟩ := h;obtain rfl : v = Uv a := rx;have hT := uz I g;refine TM ?_;refine TM (XG hT Yg.lookup ?_);have fin : Ur (Uu X.prog X.w) X.A (Yk slice false (.ref a) u) (λr s₃ => Ur (Uu X.prog X.w) X.A (letTemporaryGo value (.ref a) r >>= λ_ => pure r) (EP X pins σ Q) X.xe s₃) X.xe s := by
    rw [hs];exact wpAny_operating (yz hu I g ry λw' s' I' r' => TM (Zx (Ud ⟨w, H, I', r', q⟩)))
  first
    | exact Ud (TM fin)
    | exact TM (Ud (TM fin))
    | exact TM fin
theorem cC.hu(A:cC X pg k):X.A.units+1 < X3:=Qn A.room
theorem RY:cC X pg k-> ∃ r,yF X r/\kZ X.K r bu:=λA=>⟨_,Mr.or (zc A.hu),fun ρ h H x y x' y' Q v h' s rx ry q P=>by
 cases x with
 | tup xs =>
  cases y with
  | int i =>
   simp only[bu] at q
   split at q
   . rename_i w e;cases q;obtain⟨a,vs,rfl,z,r⟩:=rel.seq (x:= .tup xs) rfl rx;obtain⟨u,e1,e2⟩:=r.at e;exact .inl (.inr (.inl ⟨a,vs,i,u,rfl,ry,z,e1,P _ ρ H (.refl _ _) s e2⟩))
   . nomatch q
  | _=>cases q
 | ktup xs =>
  cases y with
  | int i =>
   simp only[bu] at q
   split at q
   . rename_i w e;cases q;obtain⟨a,vs,rfl,z,r⟩:=rel.seq (x:= .ktup xs) rfl rx;obtain⟨u,e1,e2⟩:=r.at e;exact .inl (.inr (.inl ⟨a,vs,i,u,rfl,ry,z,e1,P _ ρ H (.refl _ _) s e2⟩))
   . nomatch q
  | _=>cases q
 | str z =>
  cases y with
  | int i =>
   obtain⟨hl,q⟩:=iC.mp q
   split at q
   . rename_i c e;cases q;exact .inl (.inr (.inr ⟨z,i,c,rx,ry,hl,e,P _ ρ H (.refl _ _) s (by rw[rel])⟩))
   . nomatch q
  | _=>cases q
 | ref n =>
  simp only[bu] at q
  split at q
  . rename_i kvs e;split at q
    . rename_i key ek;split at q
      . rename_i w ew;cases q;obtain⟨a,ea,rfl⟩:=rx;obtain⟨kws,e1,e2⟩:=s.ob n _ a e ea;obtain⟨u,e3,e4⟩:=RK.some e2 ew;have:=fq ek ry;subst this;exact .inr ⟨a,u,rfl,e3 ▸ mH.k (k:=key) e1,P _ ρ H (.refl _ _) s e4⟩
      . nomatch q
    . nomatch q
  . rename_i xs e;cases y with
    | int i =>
     simp only at q
     split at q
     . rename_i w ew;cases q;obtain⟨a,vs,rfl,_,z,r⟩:=s.lst e rx;obtain⟨u,e1,e2⟩:=r.at ew;exact .inl (.inl ⟨a,vs,i,u,rfl,ry,.of z,e1,P _ ρ H (.refl _ _) s e2⟩)
     . nomatch q
    | _=>nomatch q
  . rename_i xs e;cases y with
    | int i =>
     simp only at q
     split at q
     . rename_i w ew;cases q;obtain⟨a,vs,rfl,_,z,r⟩:=s.jW e rx;obtain⟨u,e1,e2⟩:=r.at ew;exact .inl (.inl ⟨a,vs,i,u,rfl,ry,z,e1,P _ ρ H (.refl _ _) s e2⟩)
     . nomatch q
    | _=>nomatch q
  . nomatch q
 | _=>cases q⟩
theorem Qy(hr:cC X pg k-> ∃ r,yF X r/\kZ X.K r f)(ha:JE X pg k a ma)(hb:JE X pg k b mb)(hs:rV b):JE X pg k (.Subscript a b pos) (aq f ma mb):=⟨λA =>
 let ⟨_,q1,s1⟩:=ha.h A;let ⟨_,q2,s2⟩:=hb.h A;by obtain⟨_,q,s⟩:=hr A;exact⟨_,Qo q q1 q2 hs,xu s s1 s2⟩⟩
def pO:PV->PV->PV->PH->RV Unit:=λx y v h=>match x with
 | .ref n=>(match h[n]? with
  | some (.dct kvs)=>(match ka y with
   | some k=>if kvs.length < Ub then .ok () (h.set n (.dct (iL kvs k v))) else .no
   | none=> .no)
  | some (.lst xs)=>(match y with
   | .int i=>(match vQ xs.length i with | some j=> .ok () (h.set n (.lst (xs.set j v))) | none=> .no)
   | _=> .no)
  | _=> .no)
 | _=> .no
noncomputable def OZ:LW:=λo i v H Q=> ∃ a H',o= .ref a/\wa H a i v H'/\Q H'
theorem set_dict(hu:X.A.units+1 < X3):pV X OZ:=by
 intro pins s σ H o i v ov iv u Q I ro ri rv h;obtain⟨a,H',rfl,g,q⟩:=h;obtain rfl:ov=Uv a:=ro;exact xU hu I g ri rv λs' I'=>⟨H',I',q⟩
theorem pV.or(h:pV X t)(h':pV X t'):pV X (λo i v H Q=>t o i v H Q\/t' o i v H Q):=by
 intro pins s σ H o i v ov iv u Q I ro ri rv q;rcases q with q | q
 . exact h pins s σ H o i v ov iv u Q I ro ri rv q
 . exact h' pins s σ H o i v ov iv u Q I ro ri rv q
theorem Ow:cC X pg k-> ∃ t,pV X t/\ ∀ ρ h H x y v x' y' v' u h' Q,cB X.K ρ h H->rel X.K ρ H x x'->rel X.K ρ H y y'->rel X.K ρ H v v'->pO x y v h= .ok u h'->jJ X.K ρ H h' Q->t x' y' v' H Q:=λA =>
 ⟨_,pV.or set_list (set_dict A.hu),fun ρ h H x y v x' y' v' u h' Q s rx ry rv q P=>by
 cases x with
 | ref n =>
  simp only[pO] at q
  obtain⟨a,ea,rfl⟩:=rx
  split at q
  . rename_i kvs e;split at q
    . rename_i key ek;split at q
      . rename_i hl;cases q;obtain⟨kws,e1,e2⟩:=s.ob n _ a e ea;have:=fq ek ry;subst this;refine .inr ⟨a,_,rfl,wa.k e1 (by rw[<- RK.len e2];exact hl),?_⟩;have g:Gr ρ H ρ (upd H a (.dK (putK kws key v'))):=Gr.write (.inr ⟨_,e1⟩);exact P ρ _ g (s.write e ea rfl rfl ⟨_,aI,Paired.dg g (RK.put e2 rv)⟩)
      . nomatch q
    . nomatch q
  . rename_i xs e;cases y with
    | int i =>
     simp only at q
     split at q
     . rename_i j ej;cases q;obtain⟨vs,e1,e2⟩:=s.ob n _ a e ea;have g:Gr ρ H ρ (upd H a (.lst (vs.set j v'))):=Gr.write (.inl ⟨_,e1⟩);exact .inl ⟨a,vs,i,j,rfl,ry,e1,by rw[<- e2.len];exact ej,P ρ _ g (s.write e ea rfl rfl ⟨_,aI,ai.gr g _ _ (e2.set j rv)⟩)⟩
     . nomatch q
    | _=>cases q
  . nomatch q
 | _=>cases q⟩
end
mutual
def cS(K:TQ)(H:Hp):Xn->V->Prop
 | .none,v=>v= .non
 | .bool b,v=>v= .bl b
 | .int i,v=>v= .int i
 | .str x,v=>v= .str x
 | .list xs,v=> ∃ a vs,v= .ref a/\fA K H a vs/\fj K H xs vs
 | .tuple xs,v=> ∃ a vs,v= .ref a/\fK K H a vs/\fj K H xs vs
 | .dict _,_=>False
def fj(K:TQ)(H:Hp):List Xn->List V->Prop
 | [],vs=>vs=[]
 | x::r,vs=> ∃ v t,vs=v::t/\cS K H x v/\fj K H r t
end
mutual
theorem cS.reads{X:Cx}{pins:List (Uj × Obj)}{σ :L2.St}{H:Hp}{s:Ua}(I:Inv X pins σ H s): ∀(d:Xn)(v:V)(u:TY),cS X.K H d v->RelV v u-> ∃ as,Reads s.heap u d as
 | .none,v,u,h,r=>by rw[cS] at h;subst h;cases(show u=Wx from r);exact⟨_,.none⟩
 | .bool b,v,u,h,r=>by rw[cS] at h;subst h;cases(show u=Xr b from r);exact⟨_,.bool b⟩
 | .int i,v,u,h,r=>by rw[cS] at h;subst h;obtain⟨t,rfl⟩:=(show ∃ t,u=XU i t from r);exact⟨_,.int i t⟩
 | .str x,v,u,h,r=>by rw[cS] at h;subst h;obtain⟨t,rfl⟩:=(show ∃ t,u=XW x t from r);exact⟨_,.str x t⟩
 | .list xs,v,u,h,r=>by
  rw[cS] at h;obtain⟨a,vs,rfl,z,q⟩:=h;cases(show u=Uv a from r);obtain⟨ak,rv,⟨o,n,e,c,_,dd⟩,_⟩:=I.list z;obtain⟨as,ra⟩:=fj.reads I xs vs ak q rv;exact⟨_,.list e c dd (by simpa using ra)⟩
 | .tuple xs,v,u,h,r=>by
  rw[cS] at h;obtain⟨a,vs,rfl,z,q⟩:=h;cases(show u=Uv a from r);obtain⟨ak,rv,⟨o,e,c,n,dd⟩,_⟩:=I.tuple z;obtain⟨as,ra⟩:=fj.reads I xs vs ak q rv;exact⟨_,.tuple e c dd (by simpa using ra)⟩
 | .dict _,v,u,h,r=>by rw[cS] at h;exact h.elim
theorem fj.reads{X:Cx}{pins:List (Uj × Obj)}{σ :L2.St}{H:Hp}{s:Ua}(I:Inv X pins σ H s): ∀(xs:List Xn)(vs:List V)(us:List TY),fj X.K H xs vs->Vals vs us-> ∃ as,ReadsAll s.heap us xs as
 | [],vs,us,h,r=>by rw[fj] at h;subst h;cases r;exact⟨_,.nil⟩
 | x::t,vs,us,h,r=>by
  rw[fj] at h;obtain⟨v,w,rfl,h1,h2⟩:=h;cases r with
  | cons r1 r2 =>
   obtain⟨as,a⟩:=cS.reads I x v _ h1 r1
   obtain⟨bs,b⟩:=fj.reads I t w _ h2 r2
   exact⟨_,.cons a b⟩
end
mutual
def oF(sub:Nat->Option Xn):PV->Option Xn
 | .non=>TK .none
 | .bl b=>TK (.bool b)
 | .int i=>TK (.int i)
 | .str x=>TK (.str x)
 | .tup xs=>(cZ sub xs).map .tuple
 | .ktup xs=>(cZ sub xs).map .tuple
 | .ref n=>sub n
 | .ty _=>TL
def cZ(sub:Nat->Option Xn):List PV->Option (List Xn)
 | []=>TK []
 | x::r=>match oF sub x,cZ sub r with
  | some d1,TK ds1=>TK (d1::ds1)
  | _,_=>TL
end
noncomputable def dat:Nat->PH->PV->Option Xn
 | 0,_=>oF λ_=>TL
 | n+1,h=>oF λm=>match h[m]? with
  | some (.lst xs)=>(cZ (λj=>dat n h (.ref j)) xs).map .list
  | some (.jW xs)=>(cZ (λj=>dat n h (.ref j)) xs).map .list
  | _=>TL
mutual
theorem oF.v{K:TQ}{ρ :List Uj}{H:Hp}{sub:Nat->Option Xn}(hs: ∀ n d v,sub n=TK d->rel K ρ H (.ref n) v->cS K H d v): ∀(x:PV)(d:Xn)(v:V),oF sub x=TK d->rel K ρ H x v->cS K H d v
 | .non,d,v,e,r=>by cases e;rw[rel] at r;rw[cS];exact r
 | .bl b,d,v,e,r=>by cases e;rw[rel] at r;rw[cS];exact r
 | .int b,d,v,e,r=>by cases e;rw[rel] at r;rw[cS];exact r
 | .str b,d,v,e,r=>by cases e;rw[rel] at r;rw[cS];exact r
 | .ty b,d,v,e,r=>by nomatch e
 | .ref n,d,v,e,r=>hs n d v e r
 | .tup xs,d,v,e,r=>by
  rw[oF] at e;cases q:cZ sub xs with
  | none=>rw[q] at e;nomatch e
  | some ds =>
   rw[q] at e;cases e
   obtain⟨a,vs,e1,e2,e3⟩:=rel.seq (x:= .tup xs) rfl r
   rw[cS];exact⟨a,vs,e1,e2,cZ.v hs xs ds vs q e3⟩
 | .ktup xs,d,v,e,r=>by
  rw[oF] at e;cases q:cZ sub xs with
  | none=>rw[q] at e;nomatch e
  | some ds =>
   rw[q] at e;cases e
   obtain⟨a,vs,e1,e2,e3⟩:=rel.seq (x:= .ktup xs) rfl r
   rw[cS];exact⟨a,vs,e1,e2,cZ.v hs xs ds vs q e3⟩
theorem cZ.v{K:TQ}{ρ :List Uj}{H:Hp}{sub:Nat->Option Xn}(hs: ∀ n d v,sub n=TK d->rel K ρ H (.ref n) v->cS K H d v): ∀(xs:List PV)(ds:List Xn)(vs:List V),cZ sub xs=TK ds->ai K ρ H xs vs->fj K H ds vs
 | [],ds,vs,e,r=>by cases e;rw[ai] at r;rw[fj];exact r
 | x::t,ds,vs,e,r=>by
  rw[cZ] at e;split at e
  . rename_i d ds' e1 e2;cases e;obtain⟨v,w,rfl,r1,r2⟩:=ar.mp r;rw[fj];exact⟨v,w,rfl,oF.v hs x d v e1 r1,cZ.v hs t ds' w e2 r2⟩
  . nomatch e
end
theorem dat.v{K}(s:cB K ρ h H): ∀ n x d v,dat n h x=TK d->rel K ρ H x v->cS K H d v
 | 0,x,d,v,e,r=>oF.v (λ_ _ _ z _=>by cases z) x d v e r
 | n+1,x,d,v,e,r=>by
  refine oF.v (λm d' v' z rv=>?_) x d v e r;split at z
  . rename_i xs em;cases q:cZ (λj=>dat n h (.ref j)) xs with
    | none=>rw[q] at z;nomatch z
    | some ds =>
     rw[q] at z;cases z
     obtain⟨a,vs,e1,_,e2,e3⟩:=s.lst em rv
     exact⟨a,vs,e1,.of e2,cZ.v (λj d v z rv=>dat.v s n (.ref j) d v z rv) xs ds vs q e3⟩
  . rename_i xs em;cases q:cZ (λj=>dat n h (.ref j)) xs with
    | none=>rw[q] at z;nomatch z
    | some ds =>
     rw[q] at z;cases z
     obtain⟨a,vs,e1,_,e2,e3⟩:=s.jW em rv
     exact⟨a,vs,e1,e2,cZ.v (λj d v z rv=>dat.v s n (.ref j) d v z rv) xs ds vs q e3⟩
  . cases z
section
variable{K:TQ}{X:Cx}{pg:Tb}{k:Nat}
noncomputable def N0(K:TQ)(f:Bool->Bool):R2:=λx y H Q=> ∃ d d',cS K H d x/\cS K H d' y/\d.canLay0=true/\d'.canLay0=true/\min d.depth d'.depth<=64/\Q (.bl (f (Yb d d'))) H
theorem IT(hr:X.A.units+64 < X3):cT X (UJ .Eq) (N0 X.K id):=by
 rintro pins s σ H x y v u Q I rx ry ⟨d,d',h1,h2,c1,c2,hd,q⟩;obtain⟨as,ra⟩:=cS.reads I d x v h1 rx;obtain⟨bs,rb⟩:=cS.reads I d' y u h2 ry;exact SeqAt.compareEq_reads ra rb c1 c2 (by omega) ⟨.bl _,H,I,rfl,q⟩
theorem Jw(hr:X.A.units+64 < X3):cT X (UJ .NotEq) (N0 X.K not):=by
 rintro pins s σ H x y v u Q I rx ry ⟨d,d',h1,h2,c1,c2,hd,q⟩;obtain⟨as,ra⟩:=cS.reads I d x v h1 rx;obtain⟨bs,rb⟩:=cS.reads I d' y u h2 ry;exact SeqAt.compareNe_reads ra rb c1 c2 (by omega) ⟨.bl _,H,I,rfl,q⟩
noncomputable def lP:PV->PV->Bool
 | .non,.non=>true | .non,.int _=>true | .int _,.non=>true | .non,.bl _=>true | .bl _,.non=>true | .non,.str _=>true | .str _,.non=>true
 | .int _,.int _=>true | .bl _,.bl _=>true | .str _,.str _=>true
 | .int _,.str _=>true | .str _,.int _=>true | .bl _,.str _=>true | .str _,.bl _=>true
 | _,_=>false
noncomputable def jS(h:PH):PV->Bool
 | .ref n=>(match h[n]? with
  | some (.dct _)=>true
  | _=>false)
 | _=>false
noncomputable def isStr:PV->Bool
 | .str _=>true
 | _=>false
def alike x y h :=
 if lP x y=true then TK (decide (x=y)) else match dat 6 h x,dat 6 h y with
  | some a,TK b=>if a.canLay0=true/\b.canLay0=true/\min a.depth b.depth<=64 then TK (Yb a b) else TL
  | _,_=>if jS h x=true/\isStr y=true then TK false else TL
def qj(x y:PV)(h:PH):RV PV:=match alike x y h with
 | some b=> .ok (.bl b) h
 | none=> .no
def pD(x y:PV)(h:PH):RV PV:=match alike x y h with
 | some b=>if jS h x=true then .no else .ok (.bl (!b)) h
 | none=> .no
theorem zU{ρ : List Uj}{H : Hp}{x y : PV}{x' y' : V}(h : lP x y = true)(rx : rel K ρ H x x')(ry : rel K ρ H y y') : Dy x' y' = true /\ decide (x' = y') = decide (x = y) := by
  cases x <;> cases y <;> first
    | exact absurd (show false = true from h) Ut
    | (rw [rel] at rx; rw [rel] at ry; subst rx; subst ry; exact ⟨rfl, by simp⟩)
theorem o8(s:cB K ρ h H)(rx:rel K ρ H x x')(ry:rel K ρ H y y')(e:alike x y h=TK b) :
  (Dy x' y'=true∧b=decide (x'=y'))∨(∃ d d',cS K H d x'∧cS K H d' y'∧d.canLay0=true∧d'.canLay0=true∧min d.depth d'.depth<=64∧b=Yb d d') ∨
  (jS h x=true∧b=false∧ ∃ p z,x'= .ref p∧y'= .str z∧ ∃ kvs,H p=TK (.dK kvs)):=by
 unfold alike at e;split at e
 . rename_i hs;cases e;obtain⟨z,w⟩:=zU hs rx ry;exact .inl ⟨z,w.symm⟩
 . split at e
   . rename_i a c e1 e2;split at e
     . rename_i hc;cases e;exact .inr (.inl ⟨a,c,dat.v s 6 x a x' e1 rx,dat.v s 6 y c y' e2 ry,hc.1,hc.2.1,hc.2.2,rfl⟩)
     . nomatch e
   . split at e
     . rename_i hc;cases e;refine .inr (.inr ⟨hc.1,rfl,?_⟩);obtain⟨c1,c2⟩:=hc;cases x with
       | ref n =>
        cases y with
        | str z =>
         obtain⟨a,ea,rfl⟩:=rx
         simp only[jS] at c1
         split at c1
         . rename_i kvs en;obtain⟨kws,e1,_⟩:=s.ob n _ a en ea;exact⟨a,z,rfl,ry,kws,e1⟩
         . cases c1
        | _=>cases c2
       | _=>cases c1
     . nomatch e
theorem Rk:cC X pg k-> ∃ r,cT X (UJ .Eq) r/\kZ X.K r qj:=λA=>⟨_,OG.or ((IT A.room.units).or (EF A.room.IY)),fun ρ h H x y x' y' Q v h' s rx ry q P=>by
 unfold qj at q;split at q
 . rename_i b e;cases q;have fin:=P _ ρ H (.refl _ _) s (by rw[rel]);rcases o8 s rx ry e with⟨z,rfl⟩ | ⟨d,d',h1,h2,h3,h4,h5,rfl⟩ | ⟨_,rfl,p,z,e1,e2,kvs,e3⟩
   . exact .inl ⟨z,fin⟩
   . exact .inr (.inl ⟨d,d',h1,h2,h3,h4,h5,fin⟩)
   . exact .inr (.inr ⟨p,z,e1,e2,.inr (.inr ⟨kvs,e3⟩),fin⟩)
 . cases q⟩
theorem RJ:cC X pg k-> ∃ r,cT X (UJ .NotEq) r/\kZ X.K r pD:=λA=>⟨_,Qs.or (Jw A.room.units),fun ρ h H x y x' y' Q v h' s rx ry q P=>by
 unfold pD at q;split at q
 . rename_i b e;split at q
   . nomatch q
   . rename_i hd;cases q;have fin:=P _ ρ H (.refl _ _) s (by rw[rel]);rcases o8 s rx ry e with⟨z,rfl⟩ | ⟨d,d',h1,h2,h3,h4,h5,rfl⟩ | ⟨z,_⟩
     . exact .inl ⟨z,fin⟩
     . exact .inr ⟨d,d',h1,h2,h3,h4,h5,fin⟩
     . exact absurd z hd
 . nomatch q⟩
noncomputable def RA(K:TQ)(f:Bool->Bool):R2:=λx y H Q=> ∃ p vs xs d,y= .ref p/\(fA K H p vs\/fK K H p vs)/\fj K H xs vs/\cS K H d x/\Yp xs=true/\d.canLay0=true/\min (WG xs) d.depth<=60/\Q (.bl (f (xs.any λz=>Yb z d))) H
theorem Ig(hr:X.A.units+64 < X3):cT X (UJ .In) (RA X.K id):=by
 rintro pins s σ H x y v u Q I rx ry ⟨p,vs,xs,d,e,hq,h1,h2,c1,c2,hd,q⟩;subst e;obtain⟨bs,rb⟩:=cS.reads I d x v h2 rx;rcases hq with hq | hq
 . obtain⟨as,ra⟩:=cS.reads I (.list xs) (.ref p) u (by exact⟨p,vs,rfl,hq,h1⟩) ry;exact SeqAt.in_list_reads ra rb c1 c2 (by omega) ⟨.bl _,H,I,rfl,q⟩
 . obtain⟨as,ra⟩:=cS.reads I (.tuple xs) (.ref p) u (by exact⟨p,vs,rfl,hq,h1⟩) ry;exact SeqAt.in_tuple_reads ra rb c1 c2 (by omega) ⟨.bl _,H,I,rfl,q⟩
noncomputable def RZ(f:Bool->Bool):R2:=λx y H Q=> ∃ a o,y= .ref a/\mH H a x o/\Q (.bl (f o.isSome)) H
theorem K9(hu:X.A.units+1 < X3):cT X (UJ .In) (RZ id):=by
 rintro pins s σ H x y v u Q I rx ry ⟨a,o,e,g,q⟩;subst e;obtain rfl:u=Uv a:=ry;exact Sa hu I g rx λs' I'=>⟨.bl _,H,I',rfl,q⟩
def itemsOf(h:PH):PV->Option (List PV)
 | .tup xs=>TK xs
 | .ktup xs=>TK xs
 | .ref n=>bp h n
 | _=>TL
theorem cB.items(s:cB K ρ h H)(e:itemsOf h x=TK xs)(r:rel K ρ H x v): ∃ a vs,v= .ref a/\(fA K H a vs\/fK K H a vs)/\ai K ρ H xs vs:=by
 cases x with
 | tup ys=>cases e;obtain⟨a,vs,e1,e2,e3⟩:=rel.seq (x:= .tup xs) rfl r;exact⟨a,vs,e1,.inr e2,e3⟩
 | ktup ys=>cases e;obtain⟨a,vs,e1,e2,e3⟩:=rel.seq (x:= .ktup xs) rfl r;exact⟨a,vs,e1,.inr e2,e3⟩
 | ref n=>obtain⟨a,vs,e1,_,e2,e3⟩:=s.sq e r;exact⟨a,vs,e1,.inl e2,e3⟩
 | _=>cases e
noncomputable def fG:PV->Bool
 | .non=>true
 | .bl _=>true
 | .int _=>true
 | .str _=>true
 | _=>false
noncomputable def M9:PV->PV->Bool
 | .non,.non=>true
 | .bl a,.bl b=>a == b
 | .bl a,.int b=>(if a then 1 else 0) == b
 | .int a,.bl b=>a == (if b then 1 else 0)
 | .int a,.int b=>a == b
 | .str a,.str b=>a == b
 | _,_=>false
theorem uF(h:fG x=true)(r:rel K ρ H x v):gX v=true:=by
 cases x<;>first | (revert h;simp [fG];done) | (subst r;rfl)
theorem EU(hx : fG x = true)(hy : fG y = true)(rx : rel K ρ H x v)(ry : rel K ρ H y w) : F7 v w = M9 x y := by
  cases x <;> first
    | (exfalso; revert hx; simp [fG]; done)
    | (cases y <;> first
        | (exfalso; revert hy; simp[fG]; done)
        | (subst rx; subst ry; rfl))
theorem G8(hx:fG x=true)(rx:rel K ρ H x v): ∀{xs vs},xs.all fG=true->ai K ρ H xs vs->vs.all gX=true/\OA v vs=xs.any λz=>M9 z x
 | [],vs,_,r=>by subst r;exact⟨rfl,rfl⟩
 | y::t,vs,h,r=>by
  obtain⟨w,u,rfl,r1,r2⟩:=ar.mp r;simp only[Uw,WJ] at h;obtain⟨a,b⟩:=G8 hx rx h.2 r2;refine⟨by rw[WJ,uF h.1 r1,a];rfl,?_⟩;unfold OA at b ⊢;rw[Wa,Wa,b,EU h.1 hx r1 rx]
def isIn(x y:PV)(h:PH):Option Bool:=match itemsOf h y with
 | some xs=>if (fG x&&xs.all fG)=true then TK (xs.any λz=>M9 z x) else(match dat 6 h x,cZ (λj=>dat 6 h (.ref j)) xs with
  | some d,TK ds=>if Yp ds=true/\d.canLay0=true/\min (WG ds) d.depth<=60 then TK (ds.any λz=>Yb z d) else TL
  | _,_=>TL)
 | none=>(match y with
  | .ref n=>(match h[n]? with
   | some (.dct kvs)=>(ka x).map λk=>(bt kvs k).isSome
   | _=>TL)
  | .str j=>(match x with
   | .str i=>TK (!(Vd j i 0 j.length 1).isEmpty)
   | _=>TL)
  | _=>TL)
def hI(x y:PV)(h:PH):RV PV:=match isIn x y h with
 | some b=> .ok (.bl b) h
 | none=> .no
theorem x9(s:cB K ρ h H)(rx:rel K ρ H x x')(ry:rel K ρ H y y')(e:isIn x y h=TK b) :
  (∃ p xs,y'= .ref p/\(fA K H p xs\/fK K H p xs)/\gX x'=true/\xs.all gX=true/\b=OA x' xs) \/
  (∃ p vs xs d,y'= .ref p/\(fA K H p vs\/fK K H p vs)/\fj K H xs vs/\cS K H d x'/\Yp xs=true/\d.canLay0=true/\min (WG xs) d.depth<=60/\b=xs.any λz=>Yb z d) \/
  (∃ a o,y'= .ref a/\mH H a x' o/\b=o.isSome) \/
  (∃ i j,x'= .str i/\y'= .str j/\b= !(Vd j i 0 j.length 1).isEmpty):=by
 unfold isIn at e;split at e
 . rename_i xs ei;obtain⟨a,vs,rfl,z,r⟩:=s.items ei ry;split at e
   . rename_i hf;cases e;rw[Uw] at hf;obtain⟨f1,f2⟩:=G8 hf.1 rx hf.2 r;exact .inl ⟨a,vs,rfl,z,uF hf.1 rx,f1,f2.symm⟩
   . split at e
     . rename_i d ds e1 e2;split at e
       . rename_i hc;cases e;exact .inr (.inl ⟨a,vs,ds,d,rfl,z,cZ.v (λj d v w rv=>dat.v s 6 (.ref j) d v w rv) xs ds vs e2 r,dat.v s 6 x d x' e1 rx,hc.1,hc.2.1,hc.2.2,rfl⟩)
       . nomatch e
     . nomatch e
 . split at e
   . rename_i n ei;split at e
     . rename_i kvs en;cases q:ka x with
       | none=>simp_all
       | some key =>
        rw[q] at e
        cases e
        obtain⟨a,ea,rfl⟩:=ry
        obtain⟨kws,e1,e2⟩:=s.ob n _ a en ea
        have:=fq q rx
        subst this
        exact .inr (.inr (.inl ⟨a,_,rfl,mH.k (k:=key) e1,(RK.is key e2).symm⟩))
     . simp_all
   . split at e
     . cases e;exact .inr (.inr (.inr ⟨_,_,rx,ry,rfl⟩))
     . nomatch e
   . nomatch e
theorem Sh:cC X pg k-> ∃ r,cT X (UJ .In) r/\kZ X.K r hI:=λA=>⟨_,y9.or ((Ig A.room.units).or ((K9 A.hu).or yI)),fun ρ h H x y x' y' Q v h' s rx ry q P=>by
 unfold hI at q;split at q
 . rename_i b e;cases q;have fin:=P _ ρ H (.refl _ _) s (by rw[rel]);rcases x9 s rx ry e with⟨p,xs,e1,e2,e3,e4,rfl⟩ | ⟨p,vs,xs,d,e1,e2,e3,e4,e5,e6,e7,rfl⟩ | ⟨a,o,e1,e2,rfl⟩ | ⟨i,j,e1,e2,rfl⟩
   . exact .inl ⟨p,xs,e1,e2,e3,e4,fin⟩
   . exact .inr (.inl ⟨p,vs,xs,d,e1,e2,e3,e4,e5,e6,e7,fin⟩)
   . exact .inr (.inr (.inl ⟨a,o,e1,e2,fin⟩))
   . exact .inr (.inr (.inr ⟨i,j,e1,e2,fin⟩))
 . cases q⟩
noncomputable def mG(neg:Bool)(x:PV)(h:PH):RV PV:= .ok (.bl (if neg then !decide (x= .non) else decide (x= .non))) h
theorem DP(r:rel K ρ H x v):decide (v= .non)=decide (x= .non):=by
 cases x with
 | non=>subst r;rfl
 | bl=>subst r;rfl
 | int=>subst r;rfl
 | str=>subst r;rfl
 | ty=>subst r;rfl
 | tup=>obtain⟨a,_,rfl,_⟩:=r;rfl
 | ktup=>obtain⟨a,_,rfl,_⟩:=r;rfl
 | ref=>obtain⟨a,_,rfl⟩:=r;rfl
variable{a:UR}{ma:ME}{pos pos':Pos}
theorem AM(neg:Bool)(s1:SE c K ta ma):SE c K (fun σ H Q=>ta σ H λx H1=>Q (.bl (if neg then !decide (x= .non) else decide (x= .non))) H1) (Eg (mG neg) ma):=fun ρ h H e σ Q v h' s r q P=>by
 obtain⟨x,h1,e1,q⟩:=bind_eq.mp q;cases q;refine s1 ρ h H e σ _ x _ s r e1 λx' ρ1 H1 g1 z1 r1=>?_;rw[DP r1];exact P _ ρ1 H1 g1 z1 (by rw[rel])
theorem LO(ha:JE X pg k a ma):JE X pg k (.Compare a [.Is] [.Constant .none j pos'] pos) (Eg (mG false) ma):=⟨λA=>by obtain⟨_,q1,s1⟩:=ha.h A;exact⟨_,Mj q1,AM false s1⟩⟩
theorem M4(ha:JE X pg k a ma):JT X pg k (.Compare a [.Is] [.Constant .none j pos'] pos) (aX (Eg (mG false) ma)):=⟨λA=>by obtain⟨_,q1,s1⟩:=ha.h A;exact⟨_,Ih q1,nL (AM false s1)⟩⟩
end
section
variable{K:TQ}{X:Cx}{pg:Tb}{k:Nat}
abbrev MO:=CF->az->PH->RV (Option Int)
noncomputable def cG:MO:=λ_ _ h=> .ok TL h
def cH(a:ME):MO:=λc e h=>(a c e h).bind λv h1=>match v with
 | .int i=> .ok (TK i) h1
 | _=> .no
def dX(xs:List PV)(lo hi:Option Int):=(xs.drop (HT.dm xs.length 0 lo)).take (HT.dm xs.length xs.length hi - HT.dm xs.length 0 lo)
def HC(x:PV)(lo hi:Option Int)(h:PH):RV PV:=match x with
 | .tup xs=> .ok (.tup (dX xs lo hi)) h
 | .ref n=>(match bp h n with
  | some xs=> .ok (.ref h.length) (h++[.lst (dX xs lo hi)])
  | none=> .no)
 | _=> .no
def oZ(a:ME)(l u:MO):ME:=λc e h=>(a c e h).bind λx h1=>(l c e h1).bind λlo h2=>(u c e h2).bind λhi h3=>HC x lo hi h3
structure JO(X:Cx)(pg:Tb)(k:Nat)(e:Option UR)(m:MO):Prop where
 h:cC X pg k-> ∃ t,QO X e t/\ ∀ ρ h H e σ Q o h',cB X.K ρ h H->dv X.K ρ H e σ ->m (run pg k) e h= .ok o h'->jJ X.K ρ H h' (Q o)->t σ H Q
theorem FL:JO X pg k TL cG:=⟨λA=>⟨_,Fc,fun ρ h H e σ Q o h' s r q P=>by cases q;exact P ρ H (.refl _ _) s⟩⟩
theorem DO(ha:JE X pg k e ma):JO X pg k (TK e) (cH ma):=⟨λA=>by obtain⟨_,q1,s1⟩:=ha.h A;exact⟨_,GV q1,fun ρ h H e σ Q o h' s r q P=>by
 obtain⟨v,h1,e1,q⟩:=bind_eq.mp q;refine s1 ρ h H e σ _ v h1 s r e1 λv' ρ1 H1 g1 z1 r1=>?_;cases v with
 | int i=>cases q;exact⟨i,r1,P ρ1 H1 g1 z1⟩
 | _=>cases q⟩⟩
theorem ai.cut(r:ai K ρ H xs vs) lo hi:ai K ρ H (dX xs lo hi) (mK vs lo hi):=by
 unfold dX mK;rw[<- r.len];exact(r.drop _).take _
theorem Ao{lo p2}(ha:JE X pg k e ma)(hl:JO X pg k lo ml)(hh:JO X pg k hi mu):JE X pg k (.Subscript e (.Slice lo hi TL p2) pos) (oZ ma ml mu):=⟨λA =>
 by obtain⟨_,q1,s1⟩:=ha.h A;exact by obtain⟨_,q2,s2⟩:=hl.h A;exact by obtain⟨_,q3,s3⟩:=hh.h A;exact⟨_,Bi Tu q1 q2 q3,fun ρ h H e σ Q v h' s r q P=>by
 obtain⟨x,h1,e1,q⟩:=bind_eq.mp q
 obtain⟨lo,h2,e2,q⟩:=bind_eq.mp q
 obtain⟨hi,h3,e3,q⟩:=bind_eq.mp q
 refine s1 ρ h H e σ _ x h1 s r e1 λx' ρ1 H1 g1 z1 r1=>?_
 refine s2 ρ1 h1 H1 e σ _ lo h2 z1 (r.gr g1) e2 fun ρ2 H2 g2 z2=>?_
 refine s3 ρ2 h2 H2 e σ _ hi h3 z2 (r.gr (g1.trans g2)) e3 fun ρ3 H3 g3 z3=>?_
 have r3:=rel.gr (K:=X.K) (g2.trans g3) _ _ r1
 have P3:=P.gr ((g1.trans g2).trans g3)
 cases x with
 | tup xs =>
  cases q
  obtain⟨a,vs,rfl,d1,d2⟩:=r3
  by_cases hw:HT.dm vs.length 0 lo=0/\HT.dm vs.length vs.length hi=vs.length
  . refine .inr (.inr ⟨a,vs,rfl,.of d1,hw,P3 _ ρ3 H3 (.refl _ _) z3 ?_⟩);have:dX xs lo hi=xs:=by
     unfold dX;rw[d2.len,hw.1,hw.2,ZA,aay,<- d2.len,YI]
    rw[this];exact⟨a,vs,rfl,d1,d2⟩
  . exact .inr (.inl ⟨a,vs,rfl,.of d1,hw,λp hp=>mR z3 (d2.cut lo hi) P3 p hp⟩)
 | ref n =>
  simp only[HC] at q
  split at q
  . rename_i xs en;cases q;obtain⟨a,vs,rfl,_,d1,d2⟩:=z3.sq en r3;exact .inl ⟨a,vs,rfl,d1,λp hp=>gW z3 (d2.cut lo hi) P3 p hp⟩
  . cases q
 | _=>cases q⟩⟩
def cN:List PV->PH->RV PV:=λxs h=>match xs with
 | [x]=>(match itemsOf h x with
  | some ys=> .ok (.int ys.length) h
  | none=>(match x with
   | .str z=>iT z.length (.ok (.int z.length) h)
   | .ref n=>(match h[n]? with
    | some (.dct kvs)=> .ok (.int kvs.length) h
    | _=> .no)
   | _=> .no))
 | _=> .no
theorem a8(r:ai K ρ H [x] us): ∃ u,us=[u]/\rel K ρ H x u:=by
 obtain⟨v,t,rfl,r1,r2⟩:=ar.mp r;exact⟨v,by rw[r2],r1⟩
theorem nG(r:ai K ρ H [x,y] us): ∃ u w,us=[u,w]/\rel K ρ H x u/\rel K ρ H y w:=by
 obtain⟨v,t,rfl,r1,r2⟩:=ar.mp r;obtain⟨w,rfl,r3⟩:=a8 r2;exact⟨v,w,rfl,r1,r3⟩
theorem QC:cC X pg k-> ∃ r,bj X (.builtin "len") r/\zr X.K r cN:=λA=>⟨_,DQ.or y7,fun ρ h H xs us Q v h' s r q P=>by
 unfold cN at q;split at q
 . obtain⟨u,rfl,r1⟩:=a8 r;have r:=r1;split at q
   . rename_i ys e;cases q;obtain⟨a,vs,rfl,z,r2⟩:=s.items e r;exact .inl (.inl ⟨a,vs,rfl,z,by rw[<- r2.len];exact P _ ρ H (.refl _ _) s (by rw[rel])⟩)
   . split at q
     . obtain⟨hl,q⟩:=iC.mp q;cases q;subst r;exact .inl (.inr ⟨_,rfl,hl,P _ ρ H (.refl _ _) s (by rw[rel])⟩)
     . split at q
       . rename_i e;cases q;obtain⟨a,ea,rfl⟩:=r;obtain⟨kws,e1,e2⟩:=s.ob _ _ a e ea;exact .inr ⟨a,kws,rfl,e1,by rw[<- RK.len e2];exact P _ ρ H (.refl _ _) s (by rw[rel])⟩
       . nomatch q
     . nomatch q
 . nomatch q⟩
inductive Ty where
 | non | bool | int | str | tuple | list | dict
 deriving DecidableEq
noncomputable def Ty.n:Ty->String
 | .non=> "NoneType" | .bool=> "bool" | .int=> "int" | .str=> "str" | .tuple=> "tuple" | .list=> "list" | .dict=> "dict"
noncomputable def Ty.of:String->Option Ty
 | "bool" =>TK .bool | "int" =>TK .int | "str" =>TK .str | "tuple" =>TK .tuple | "list" =>TK .list | "dict" =>TK .dict
 | _=>TL
noncomputable def Ty.O7(a b:Ty):=decide (a=b)||(decide (a= .bool)&&decide (b= .int))
def tyP(h:PH):PV->Option Ty
 | .non=>TK .non
 | .bl _=>TK .bool
 | .int _=>TK .int
 | .str _=>TK .str
 | .tup _=>TK .tuple
 | .ref n=>(match h[n]? with
  | some (.lst _)=>TK .list
  | some (.dct _)=>TK .dict
  | _=>TL)
 | _=>TL
theorem CO(s:cB K ρ h H)(e:tyP h x=TK t)(r:rel K ρ H x v):jb K H v (.type t.n):=by
 cases x with
 | non=>cases e;subst r;exact .non
 | bl b=>cases e;subst r;exact .bl b
 | int i=>cases e;subst r;exact .int i
 | str z=>cases e;subst r;exact .str z
 | tup xs=>cases e;obtain⟨a,vs,rfl,e1,_⟩:=r;exact .tup e1
 | ref n =>
  obtain⟨a,ea,rfl⟩:=r
  simp only[tyP] at e
  split at e
  . rename_i en;cases e;obtain⟨vs,e1,_⟩:=s.ob n _ a en ea;exact .lst e1
  . rename_i en;cases e;obtain⟨vs,e1,_⟩:=s.ob n _ a en ea;exact .dK e1
  . cases e
 | _=>cases e
theorem Ac(a b:Ty)(hb:b≠ .non):X2 K (.type a.n) (.type b.n)=TK (a.O7 b):=by
 cases b<;>first | (exact absurd rfl hb) | (cases a<;>rfl)
theorem Ty.Pd(h:Ty.of T=TK t):T=t.n/\t≠ .non:=by
 unfold Ty.of at h;split at h<;>first | (cases h;exact⟨rfl,by decide⟩) | cases h
def wC:List PV->Option (List Ty)
 | []=>TK []
 | .ty T::r=>(match Ty.of T,wC r with
  | some t,TK ts=>TK (t::ts)
  | _,_=>TL)
 | _=>TL
def cm:List PV->PH->RV PV:=λxs h=>match xs with
 | [x,.ty T]=>(match tyP h x,Ty.of T with
  | some a,TK b=> .ok (.bl (a.O7 b)) h
  | _,_=> .no)
 | [x,.tup ts]=>(match tyP h x,wC ts with
  | some a,TK bs=> .ok (.bl (bs.any a.O7)) h
  | _,_=> .no)
 | _=> .no
theorem wI: ∀{ts bs vs},wC ts=TK bs->ai K ρ H ts vs->vs=(bs.map Ty.n).map V.ty/\ ∀ b∈bs,b≠ .non
 | [],bs,vs,e,r=>by cases e;subst r;exact⟨rfl,λ_ m=>by cases m⟩
 | .ty T::t,bs,vs,e,r=>by
  simp only[wC] at e;split at e
  . rename_i b bs' e1 e2;cases e;obtain⟨v,w,rfl,r1,r2⟩:=ar.mp r;obtain⟨h1,h2⟩:=wI e2 r2;obtain⟨n1,n2⟩:=Ty.Pd e1;refine⟨by rw[r1,h1,n1];rfl,λc m=>?_⟩;rcases Uh.mp m with rfl | m
    . exact n2
    . exact h2 c m
  . cases e
 | .non::_,_,_,e,_=>by cases e
 | .bl _::_,_,_,e,_=>by cases e
 | .int _::_,_,_,e,_=>by cases e
 | .str _::_,_,_,e,_=>by cases e
 | .tup _::_,_,_,e,_=>by cases e
 | .ktup _::_,_,_,e,_=>by cases e
 | .ref _::_,_,_,e,_=>by cases e
theorem xv(a:Ty): ∀(bs:List Ty),(∀ b∈bs,b≠ .non)->ZE K (.type a.n) ((bs.map Ty.n).map Wb)=TK (bs.any a.O7)
 | [],_=>rfl
 | b::r,h=>by
  have h1:=Ac (K:=K) a b (h b Ug);have h2:=xv a r λc m=>h c (T7 _ m);simp only[T9,Wa,ZE,h1,h2];cases a.O7 b<;>rfl
theorem Qt:cC X pg k-> ∃ r,bj X (.builtin "isinstance") r/\zr X.K r cm:=λA=>⟨_,zW,fun ρ h H xs us Q v h' s r q P=>by
 unfold cm at q;split at q
 . rename_i x T;split at q
   . rename_i a b e1 e2;cases q;obtain⟨u,w,rfl,r1,r2⟩:=nG r;subst r2;obtain⟨n1,n2⟩:=Ty.Pd e2;exact .inl ⟨u,T,_,_,rfl,CO s e1 r1,by rw[n1];exact Ac a b n2,P _ ρ H (.refl _ _) s (by rw[rel])⟩
   . nomatch q
 . split at q
   . rename_i a bs e1 e2;cases q;obtain⟨u,w,rfl,r1,r2⟩:=nG r;obtain⟨p,vs,rfl,e3,e4⟩:=r2;obtain⟨h1,h2⟩:=wI e2 e4;subst h1;exact .inr ⟨u,p,_,_,_,rfl,e3,CO s e1 r1,xv a bs h2,P _ ρ H (.refl _ _) s (by rw[rel])⟩
   . nomatch q
 . nomatch q⟩
noncomputable def Mg:List PV->PH->RV PV:=λxs h=>match xs with
 | [.int i]=> .ok (.int i) h
 | [.bl b]=> .ok (.int (if b then 1 else 0)) h
 | _=> .no
theorem Pw:cC X pg k-> ∃ r,bj X (.type "int") r/\zr X.K r Mg:=λA=>⟨_,FJ,fun ρ h H xs us Q v h' s r q P=>by
 unfold Mg at q;split at q
 . cases q;obtain⟨u,rfl,r1⟩:=a8 r;have r:=r1;subst r;exact .inl ⟨_,rfl,P _ ρ H (.refl _ _) s (by rw[rel])⟩
 . cases q;obtain⟨u,rfl,r1⟩:=a8 r;have r:=r1;subst r;exact .inr ⟨_,rfl,P _ ρ H (.refl _ _) s (by rw[rel])⟩
 . cases q⟩
def bZ:List PV->PH->RV PV:=λxs h=>match xs with
 | [.tup ys]=> .ok (.tup ys) h
 | [.ref n]=>(match bp h n with
  | some ys=> .ok (.tup ys) h
  | none=> .no)
 | _=> .no
theorem EE:cC X pg k-> ∃ r,bj X (.type "tuple") r/\zr X.K r bZ:=λA=>⟨_,Gf,fun ρ h H xs us Q v h' s r q P=>by
 unfold bZ at q;split at q
 . cases q;obtain⟨u,rfl,r1⟩:=a8 r;have r:=r1;have r':=r;obtain⟨a,vs,rfl,e1,e2⟩:=r;exact⟨a,vs,rfl,.inr ⟨.of e1,P _ ρ H (.refl _ _) s r'⟩⟩
 . split at q
   . rename_i ys e;cases q;obtain⟨u,rfl,r1⟩:=a8 r;have r:=r1;obtain⟨a,vs,rfl,_,e1,e2⟩:=s.sq e r;exact⟨a,vs,rfl,.inl ⟨e1,λp hp=>mR s e2 P p hp⟩⟩
   . nomatch q
 . nomatch q⟩
def j9:List PV->PH->RV PV:=λxs h=>match xs with
 | [x]=>(match itemsOf h x with
  | some ys=> .ok (.ref h.length) (h++[.lst ys])
  | none=> .no)
 | _=> .no
theorem HV:cC X pg k-> ∃ r,bj X (.type "list") r/\zr X.K r j9:=λA=>⟨_,r9,fun ρ h H xs us Q v h' s r q P=>by
 unfold j9 at q;split at q
 . split at q
   . rename_i ys e;cases q;obtain⟨u,rfl,r1⟩:=a8 r;have r:=r1;obtain⟨a,vs,rfl,z,r2⟩:=s.items e r;exact⟨a,vs,rfl,z,λp hp=>gW s r2 P p hp⟩
   . nomatch q
 . nomatch q⟩
noncomputable def uR:List PV->Option (List Bool)
 | []=>TK []
 | .bl b::r=>(uR r).map (b:: ·)
 | _=>TL
theorem sI: ∀{xs bs},uR xs=TK bs->xs=bs.map PV.bl
 | [],bs,e=>by cases e;rfl
 | .bl b::r,bs,e=>by
  rw[uR] at e;cases q:uR r with
  | none=>simp_all
  | some cs=>rw[q] at e;cases e;rw[sI q];rfl
 | .non::_,_,e=>by cases e
 | .int _::_,_,e=>by cases e
 | .str _::_,_,e=>by cases e
 | .tup _::_,_,e=>by cases e
 | .ktup _::_,_,e=>by cases e
 | .ref _::_,_,e=>by cases e
 | .ty _::_,_,e=>by cases e
theorem rH: ∀{bs:List Bool}{vs},ai K ρ H (bs.map PV.bl) vs->vs=bs.map V.bl
 | [],vs,r=>bG.mp r
 | b::t,vs,r=>by
  obtain⟨v,w,rfl,r1,r2⟩:=ar.mp r;rw[r1,rH r2];rfl
def qJ{α :Type}(g:List PV->Option (List α))(f:List α ->PV):List PV->PH->RV PV:=λxs h=>match xs with
 | [.ref n]=>(match bp h n with
  | some ys=>(match g ys with
   | some bs=> .ok (f bs) h
   | none=> .no)
  | none=> .no)
 | _=> .no
theorem tQ(q:qJ g f xs h= .ok v h'): ∃ n ys bs,xs=[.ref n]/\bp h n=TK ys/\g ys=TK bs/\v=f bs/\h'=h:=by
 unfold qJ at q;split at q
 . split at q
   . split at q
     . cases q;exact⟨_,_,_,rfl,by assumption,by assumption,rfl,rfl⟩
     . nomatch q
   . nomatch q
 . nomatch q
def uU:=qJ uR λbs=> .bl (bs.all id)
def xG:=qJ uR λbs=> .bl (bs.any id)
theorem Qm:cC X pg k-> ∃ r,bj X (.builtin "all") r/\zr X.K r uU:=λA=>⟨_,Gs A.calm,fun ρ h H xs us Q v h' s r q P=>by
 obtain⟨n,ys,bs,rfl,e1,e2,rfl,rfl⟩:=tQ q;obtain⟨u,rfl,r1⟩:=a8 r;have r:=r1;obtain⟨a,vs,rfl,_,z,r2⟩:=s.sq e1 r;rw[sI e2] at r2;exact⟨a,bs,rfl,by rw[rH r2] at z;exact z,P _ ρ H (.refl _ _) s (by rw[rel])⟩⟩
theorem Ny:cC X pg k-> ∃ r,bj X (.builtin "any") r/\zr X.K r xG:=λA=>⟨_,callAny A.calm,fun ρ h H xs us Q v h' s r q P=>by
 obtain⟨n,ys,bs,rfl,e1,e2,rfl,rfl⟩:=tQ q;obtain⟨u,rfl,r1⟩:=a8 r;have r:=r1;obtain⟨a,vs,rfl,_,z,r2⟩:=s.sq e1 r;rw[sI e2] at r2;exact⟨a,bs,rfl,by rw[rH r2] at z;exact z,P _ ρ H (.refl _ _) s (by rw[rel])⟩⟩
def aJ:PV->PH->Bool:=λx h=>match x with
 | .ref n=>(match h[n]? with
  | some (.lst _)=>true
  | _=>false)
 | _=>false
theorem oz(s:cB K ρ h H)(r:rel K ρ H x v)(e:aJ x h=true):K3 K "list" v H:=by
 cases x with
 | ref n =>
  simp only[aJ] at e
  split at e
  . rename_i en;obtain⟨a,vs,rfl,_,e1,_⟩:=s.lst en r;exact .inl ⟨rfl,vs,.of e1⟩
  . cases e
 | _=>cases e
def au:PV->List PV->PH->RV PV:=λx vs h=>match x,vs with
 | .ref n,[v]=>(match h[n]? with
  | some (.lst xs)=>if xs.length < Ub then .ok .non (h.set n (.lst (xs++[v]))) else .no
  | _=> .no)
 | _,_=> .no
theorem zt:cC X pg k-> ∃ r,vz X "list.append" r/\Hu X.K "list" r au aJ:=λA=>⟨_,yX,fun ρ h H x x' s r e=>oz s r e,fun ρ h H x x' xs us Q v h' s rx rs q P=>by
 unfold au at q;split at q
 . split at q
   . rename_i ys en;split at q
     . rename_i hl;cases q;obtain⟨a,vs,rfl,ea,e1,e2⟩:=s.lst en rx;obtain⟨u,rfl,r⟩:=a8 rs;have g:Gr ρ H ρ (upd H a (.lst (vs++[u]))):=Gr.write (.inl ⟨_,e1⟩);exact⟨a,vs,u,rfl,rfl,e1,by rw[<- e2.len];exact hl,P _ ρ _ g (s.write en ea rfl rfl ⟨_,aI,ai.gr g _ _ (e2.app (ai.one r))⟩) (by rw[rel])⟩
     . nomatch q
   . nomatch q
 . nomatch q⟩
def cD:PV->List PV->PH->RV PV:=λx vs h=>match x,vs with
 | .ref n,[.ref m]=>(match h[n]?,h[m]? with
  | some (.lst xs),TK (.lst ys)=>iT (xs.length+ys.length) (.ok .non (h.set n (.lst (xs++ys))))
  | _,_=> .no)
 | _,_=> .no
theorem zQ:cC X pg k-> ∃ r,vz X "list.extend" r/\Hu X.K "list" r cD aJ:=λA=>⟨_,x8,fun ρ h H x x' s r e=>oz s r e,fun ρ h H x x' xs us Q v h' s rx rs q P=>by
 unfold cD at q;split at q
 . rename_i n m;split at q
   . rename_i ys zs en em;obtain⟨hl,q⟩:=iC.mp q;cases q;obtain⟨a,vs,rfl,ea,e1,e2⟩:=s.lst en rx;obtain⟨u,rfl,r⟩:=a8 rs;obtain⟨b,ws,rfl,eb,d1,d2⟩:=s.lst em r;have g:Gr ρ H ρ (upd H a (.lst (vs++ws))):=Gr.write (.inl ⟨_,e1⟩);exact⟨a,b,vs,ws,rfl,rfl,e1,d1,by rw[<- e2.len,<- d2.len];exact hl,P _ ρ _ g (s.write en ea rfl rfl ⟨_,aI,ai.gr g _ _ (e2.app d2)⟩) (by rw[rel])⟩
   . nomatch q
 . nomatch q⟩
end
section
variable{K:TQ}{X:Cx}{pg:Tb}{k:Nat}{tg l:UR}
theorem rY{σ :L2.St}(I:Inv X pins σ H s): ∀ b∈[s.heap.objs.size],gx X pins H b:=λb hb=>by
 have e:b=s.heap.objs.size:=by simpa using hb
 subst e;exact I.zb (T6 _) (I.bx.fresh (T6 _))
theorem zR{pins:List (Uj × Obj)}{σ :L2.St}{H:Hp}{s:Ua}{R:It->Hp->Prop}{a:Uj}{xs:List V}(I:Inv X pins σ H s)(hq:fA X.K H a xs)(q:R (Rm X.K a) H):Ur (Uu X.prog X.w) X.A (Z9 (.ref a)) (Ox X pins σ tg R) X.xe s:=by
 obtain⟨ak,rv,p,hz⟩:=I.list hq;exact Yo p.isList ⟨s.heap.objs.size,[s.heap.objs.size],_,_,H,rfl,I.kept (t':=s.toks) (λb o e=>T1 _ e),yo a _,⟨_,Up _ rfl,rfl,rfl⟩,rY I,q⟩
theorem B7{pins:List (Uj × Obj)}{σ :L2.St}{H:Hp}{s:Ua}{R:It->Hp->Prop}{a:Uj}{xs:List V}(I:Inv X pins σ H s)(hq:fK X.K H a xs)(q:R (Q0 X.K a) H):Ur (Uu X.prog X.w) X.A (Z9 (.ref a)) (Ox X pins σ tg R) X.xe s:=by
 obtain⟨ak,rv,p,hz⟩:=I.tuple hq;exact Yc (show s.heap.IsTuple a ak.toArray from p) ⟨s.heap.objs.size,[s.heap.objs.size],_,_,H,rfl,I.kept (t':=s.toks) (λb o e=>T1 _ e),vL a _,⟨_,Up _ rfl,rfl,rfl⟩,rY I,q⟩
theorem zM{pins:List (Uj × Obj)}{σ :L2.St}{H:Hp}{s:Ua}{R:It->Hp->Prop}{z:Str}{t:Tok}(I:Inv X pins σ H s)(q:R (Q3 z) H):Ur (Uu X.prog X.w) X.A (Z9 (.str z t)) (Ox X pins σ tg R) X.xe s:=by
 cases ha:z.cps.all (· < 128)
 . exact wpAny_pyIter_wide ha ⟨s.heap.objs.size,[s.heap.objs.size],_,_,H,rfl,I.kept (t':=s.toks) (λb o e=>T1 _ e),um z t _ (by decide) (λA' hA=>Walks.strWide hA _ z t) (λ_ _ _ _ _ st h=>wpAny_pyIter_striter_wide st h),⟨_,Up _ rfl,rfl,rfl⟩,rY I,q⟩
 . exact wpAny_pyIter_ascii ha ⟨s.heap.objs.size,[s.heap.objs.size],_,_,H,rfl,I.kept (t':=s.toks) (λb o e=>T1 _ e),um z t _ (by decide) (λA' hA=>Walks.strAscii hA _ z t) (λ_ _ _ _ _ st h=>wpAny_pyIter_striter_ascii st h),⟨_,Up _ rfl,rfl,rfl⟩,rY I,q⟩
def O6(K:TQ)(tl:TE):TI:=fun σ H R=>tl σ H λx H1=>(∃ a xs,x= .ref a/\fA K H1 a xs/\R (Rm K a) H1)\/(∃ a xs,x= .ref a/\fK K H1 a xs/\R (Q0 K a) H1)\/ ∃ z,x= .str z/\R (Q3 z) H1
theorem Iw(hl:PE X l tl):PI X tg l (O6 X.K tl):=by
 intro pins s σ H R I h;refine jg (hl pins s σ H _ I h) λv s1 x H1 I1 r1 q1=>?_;rcases q1 with⟨a,xs,rfl,hq,q⟩ | ⟨a,xs,rfl,hq,q⟩ | ⟨z,rfl,q⟩
 . cases r1;exact zR I1 hq q
 . cases r1;exact B7 I1 hq q
 . obtain⟨t,rfl⟩:=r1;exact zM I1 q
def mC(x:PV)(h:PH):RV pE:=match x with
 | .tup xs=> .ok ⟨TL,xs⟩ h
 | .ktup xs=> .ok ⟨TL,xs⟩ h
 | .str z=> .ok ⟨TL,z.cps.toList.map λc=> .str ⟨#[c]⟩⟩ h
 | .ref n=>(match bp h n with
  | some xs=> .ok ⟨TK n,xs⟩ h
  | none=> .no)
 | _=> .no
def ef(a:ME):MI:=λc e h=>(a c e h).bind mC
end
section
variable{X:Cx}{pg:Tb}{k:Nat}{tg l:UR}{ma:ME}{ta:TE}
theorem Mi{K}(s1:SE c K ta ma):SI c K (O6 K ta) (ef ma):=fun ρ h H e σ R it h' s r q P=>by
 obtain⟨x,h1,e1,q⟩:=bind_eq.mp q;refine s1 ρ h H e σ _ x h1 s r e1 λx' ρ1 H1 g1 z1 r1=>?_;have tupc: ∀(xs:List PV),x.seq?=TK xs->it=⟨TL,xs⟩->h'=h1->(∃ a xs,x'= .ref a/\fK K H1 a xs/\R (Q0 K a) H1):=λxs ex ei eh=>by
  subst ei eh;obtain⟨a,vs,rfl,zz,rr⟩:=rel.seq ex r1;refine⟨a,vs,rfl,zz,P ρ1 H1 _ g1 z1 λi ρ2 h2 H2 g s _=>?_⟩;have z2:=g.LU zz;have r2:=ai.gr g _ _ rr;refine⟨λy e=>?_,λe=>⟨vs,z2,by rw[e,<- rr.len];exact T6 _⟩⟩;obtain⟨v,d1,d2⟩:=r2.get e;refine⟨⟨vs,v,z2,d1⟩,?_⟩;rintro w H' ⟨rfl,hw⟩;have:=hw vs z2;rw[d1] at this;cases this;exact⟨ρ2,.refl _ _,s,d2⟩
 cases x with
 | tup xs=>cases q;exact .inr (.inl (tupc xs rfl rfl rfl))
 | ktup xs=>cases q;exact .inr (.inl (tupc xs rfl rfl rfl))
 | str z =>
  cases q
  refine .inr (.inr ⟨z,r1,P ρ1 H1 _ g1 z1 λi ρ2 h2 H2 g s _=>⟨λy e=>?_,λe=>by show i=z.cps.size;simpa using e⟩⟩)
  rw[U1] at e
  cases q:z.cps.toList[i]? with
  | none=>simp_all
  | some c =>
   rw[q] at e
   cases e
   have hc:z.cps[i]?=TK c:=by simpa using q
   refine⟨(Array.getElem?_eq_some_iff.mp hc).1,?_⟩
   rintro v H' ⟨rfl,c',e1,rfl⟩
   rw[hc] at e1
   cases e1
   exact⟨ρ2,.refl _ _,s,by rw[rel]⟩
 | ref n =>
  simp only[mC] at q
  split at q
  . rename_i xs en;cases q;obtain⟨a,vs,rfl,ea,zz,rr⟩:=z1.sq en r1;refine .inl ⟨a,vs,rfl,zz,P ρ1 H1 _ g1 z1 λi ρ2 h2 H2 g s hf=>?_⟩;have ea2:=g.pre _ _ ea;have hl:bp h2 n=TK xs:=by
     have:h2[n]?=TK (.lst xs)\/h2[n]?=TK (.jW xs):=by simpa [pE.iw] using hf
     unfold bp;rcases this with q | q<;>rw[q]
    obtain⟨a',vs2,e3,e4,z2,r2⟩:=s.sq hl (show rel K ρ2 H2 (.ref n) (.ref a) by exact⟨a,ea2,rfl⟩);cases e3;refine⟨λy e=>?_,λe=>⟨vs2,z2,by rw[e,<- r2.len];exact T6 _⟩⟩;obtain⟨v,d1,d2⟩:=r2.get e;refine⟨⟨vs2,v,z2,d1⟩,?_⟩;rintro w H' ⟨rfl,hw⟩;have:=hw vs2 z2;rw[d1] at this;cases this;exact⟨ρ2,.refl _ _,s,d2⟩
  . cases q
 | _=>cases q
theorem M6(ha:JE X pg k l ma):JI X pg k tg l (ef ma):=⟨λA=>by obtain⟨_,q1,s1⟩:=ha.h A;exact⟨_,⟨Iw q1.h⟩,Mi s1⟩⟩
def aP lo n:=(VY n).map λ(i:Nat)=>PV.int (lo+(i))
def eO(r:MA):MI:=λc e h=>(r c e h).bind λvs h1=>match vs with
 | [.int j]=>if -(2 ^ 62)<=j/\j < 2 ^ 62 then .ok ⟨TL,aP 0 j.toNat⟩ h1 else .no
 | _=> .no
def jP(r:MA):MI:=λc e h=>(r c e h).bind λvs h1=>match vs with
 | [.int i,.int j]=>if (-(2 ^ 62)<=i/\i < 2 ^ 62)/\ -(2 ^ 62)<=j/\j < 2 ^ 62 then .ok ⟨TL,aP i (j - i).toNat⟩ h1 else .no
 | _=> .no
theorem qF{K} lo n:SF K ρ H (P4 lo n) ⟨TL,aP lo n⟩:=λi ρ1 h1 H1 g s _=>by
 refine⟨λy e=>?_,λe=>by show n<=i;rw[e];simp[aP]⟩;unfold aP at e;rw[U1] at e;rcases Xm i n with z | z
 . rw[List.getElem?_range z] at e;cases e;exact⟨z,λv H'=>by rintro ⟨e1,e2⟩;exact by subst e1;subst e2;exact⟨ρ1,.refl _ _,s,by rw[rel]⟩⟩
 . simp_all
variable{a b:UR}{p pos:Pos}{mr:MA}
theorem yC(hg:Gl X "range")(ha:JA X pg k [a] mr)(hs:UH [a] X.env=[(false,Vl a X.env)]:=by rfl):JI X pg k tg (.Call (.Name "range" p) [a] [] pos) (eO mr):=⟨λA =>
 by obtain⟨_,q1,s1⟩:=ha.h A;exact⟨_,⟨xO hg (A.blt _ (by decide)) q1.h hs⟩,fun ρ h H e σ R it h' s r q P=>by
 obtain⟨vs,h1,e1,q⟩:=bind_eq.mp q
 refine s1 ρ h H e σ _ vs h1 s r e1 λus ρ1 H1 g1 z1 r1=>?_
 split at q
 . rename_i j;split at q
   . rename_i hj;cases q;obtain⟨u,rfl,r2⟩:=a8 r1;subst r2;exact⟨j,rfl,hj.1,hj.2,P ρ1 H1 _ g1 z1 (qF 0 _)⟩
   . nomatch q
 . nomatch q⟩⟩
theorem yE(hg:Gl X "range")(ha:JA X pg k [a,b] mr)(hs:UH [a,b] X.env=[(false,Vl a X.env),(false,Vl b X.env)]:=by rfl)(hs2:UH [b] X.env=[(false,Vl b X.env)]:=by rfl):JI X pg k tg (.Call (.Name "range" p) [a,b] [] pos) (jP mr):=⟨λA =>
 let ⟨_,q1,s1⟩:=ha.h A;⟨_,⟨yd hg (A.blt _ (by decide)) q1.h hs hs2⟩,fun ρ h H e σ R it h' s r q P=>by
 obtain⟨vs,h1,e1,q⟩:=bind_eq.mp q
 refine s1 ρ h H e σ _ vs h1 s r e1 λus ρ1 H1 g1 z1 r1=>?_
 split at q
 . rename_i i j;split at q
   . rename_i hj;cases q;obtain⟨u,w,rfl,r2,r3⟩:=nG r1;rw[rel] at r2;rw[rel] at r3;subst r2 r3;exact⟨i,j,rfl,⟨hj.1.1,hj.1.2,hj.2.1,hj.2.2⟩,P ρ1 H1 _ g1 z1 (qF i _)⟩
   . nomatch q
 . nomatch q⟩⟩
abbrev MP:=CF->az->PH->RV (List (Key × PV))
noncomputable def ue:MP:=λ_ _ h=> .ok [] h
def bQ(a b:ME)(r:MP):MP:=λc e h=>(a c e h).bind λx h1=>match ka x with
 | some key=>(b c e h1).bind λv h2=>(r c e h2).bind λkvs h3=> .ok ((key,v)::kvs) h3
 | none=> .no
def dy(kvs more:List (Key × PV)):=more.foldl (λacc kv=>iL acc kv.1 kv.2) kvs
def oX(r:MP):ME:=λc e h=>(r c e (h++[.dct []])).bind λkvs h1=>if h1[h.length]?=TK (.dct [])/\kvs.length<=15 then .ok (.ref h.length) (h1.set h.length (.dct (dy [] kvs))) else .no
structure JP(X:Cx)(pg:Tb)(k:Nat)(pos:Pos)(ks:List (Option UR))(vs:List UR)(m:MP):Prop where
 h:cC X pg k-> ∃ t,QP X pos ks vs t/\ ∀ ρ h H e σ Q kvs h',cB X.K ρ h H->dv X.K ρ H e σ ->m (run pg k) e h= .ok kvs h'->(∀ kws ρ' H',Gr ρ H ρ' H'->cB X.K ρ' h' H'->RK X.K ρ' H' kvs kws->Q (kws.map λkv=>(kV kv.1,kv.2)) H')->kW t σ H Q
theorem KN:JP X pg k pos [] [] ue:=⟨λA=>⟨_,D6,fun ρ h H e σ Q kvs h' s r q P=>by cases q;exact P [] ρ H (.refl _ _) s .nil⟩⟩
theorem Gw(hk:JE X pg k kk mk)(hv:JE X pg k v mv)(hr:JP X pg k pos ks vs mp):JP X pg k pos (TK kk::ks) (v::vs) (bQ mk mv mp):=⟨λA =>
 let ⟨_,q1,s1⟩:=hk.h A;let ⟨_,q2,s2⟩:=hv.h A;by obtain⟨_,q3,s3⟩:=hr.h A;exact⟨_,Bp q1 q2 q3,fun ρ h H e σ Q kvs h' s r q P=>by
 obtain⟨x,h1,e1,q⟩:=bind_eq.mp q
 refine s1 ρ h H e σ _ x h1 s r e1 λx' ρ1 H1 g1 z1 r1=>?_
 split at q
 . rename_i key ek;obtain⟨v,h2,e2,q⟩:=bind_eq.mp q;obtain⟨kvs',h3,e3,q⟩:=bind_eq.mp q;cases q;refine s2 ρ1 h1 H1 e σ _ v h2 z1 (r.gr g1) e2 λv' ρ2 H2 g2 z2 r2=>?_;refine s3 ρ2 h2 H2 e σ _ kvs' _ z2 (r.gr (g1.trans g2)) e3 λkws ρ3 H3 g3 z3 r3=>?_;have:=P ((key,v')::kws) ρ3 H3 ((g1.trans g2).trans g3) z3 (.cons ⟨rfl,rel.gr g3 _ _ r2⟩ r3);rw[fq ek r1];exact this
 . cases q⟩⟩
theorem RK.merge{K}: ∀{more mw kvs kws},RK K ρ H more mw->RK K ρ H kvs kws->RK K ρ H (dy kvs more) (fV kws mw)
 | _,_,_,_,.nil,r=>r
 | _,_,_,_,.cons (a:=p) (b:=q) a t,r=>by
  show RK K ρ H (dy (iL _ p.1 p.2) _) (fV (putK _ q.1 q.2) _);refine RK.merge t ?_;rw[<- a.1];exact RK.put r a.2
theorem EI(h:JP X pg k pos ks vs mp)(hall:ks.all (·.isSome)=true)(hl:ks.length=vs.length)(h0:ks≠[])(h15:ks.length<=15):JE X pg k (.Dict ks vs pos) (oX mp):=⟨λA =>
 by obtain⟨_,q1,s1⟩:=h.h A;exact⟨_,Ek q1 hall hl h0 h15,fun ρ h H e σ Q v h' s r q P p hp=>by
 obtain⟨kvs,h1,e1,q⟩:=bind_eq.mp q
 split at q
 . rename_i hc;cases q;have g0:Gr ρ H (ρ ++[p]) (upd H p (.dK [])):=Gr.new hp [p];have s0:cB X.K (ρ ++[p]) (h++[.dct []]) (upd H p (.dK [])):=s.new hp ⟨[],aI,.nil⟩;refine s1 (ρ ++[p]) _ _ e σ _ kvs h1 s0 (r.gr g0) e1 λkws ρ1 H1 g1 z1 r1=>?_;have ep:(ρ ++[p])[h.length]?=TK p:=by rw[<- s.len,Uo (T6 _)];simp
   have ep1:=g1.pre _ _ ep;obtain⟨kw0,e2,e3⟩:=z1.ob h.length _ p hc.1 ep1;cases e3;refine⟨e2,kws,rfl,by rw[<- RK.len r1];exact hc.2,?_⟩;have gw:Gr ρ1 H1 ρ1 (upd H1 p (.dK (fV [] kws))):=Gr.write (.inr ⟨_,e2⟩);refine P _ ρ1 _ ((g0.trans g1).trans gw) (z1.write hc.1 ep1 rfl rfl ⟨_,aI,RK.merge (Paired.dg gw r1) .nil⟩) ?_;exact⟨p,ep1,rfl⟩
 . cases q⟩⟩
noncomputable def nJ:ME:=λ_ _ h=> .ok (.ref h.length) (h++[.dct []])
theorem Cs:JE X pg k (.Dict [] [] pos) nJ:=⟨λA=>⟨_,BU,fun ρ h H e σ Q v h' s r q P p hp=>by
 cases q;refine P _ (ρ ++[p]) _ (Gr.new hp [p]) (s.new hp ⟨[],aI,.nil⟩) ?_;exact⟨p,by rw[<- s.len,Uo (T6 _)];simp,rfl⟩⟩⟩
def nR(kvs:List (Key × PV))(a:ME):ME:=λc e h=>(a c e h).bind λx h1=>match ka x with
 | some key=>(match bt kvs key with
  | some v=> .ok v h1
  | none=> .no)
 | none=> .no
def rn(neg:Bool)(kvs:List (Key × PV))(a:ME):ME:=λc e h=>(a c e h).bind λx h1=>match ka x with
 | some key=> .ok (.bl (if neg then !(bt kvs key).isSome else(bt kvs key).isSome)) h1
 | none=> .no
variable{x:Str}{kvs:List (Key × PV)}{i:UR}{mi:ME}{pos':Pos}
theorem EZ(hd:pg.sJ x=TK kvs)(hg:Gl X x)(hi:JE X pg k i mi)(hs:GI i)(hdb:(x == ("__debug__"))=false:=by decide):JE X pg k (.Subscript (.Name x pos') i pos) (nR kvs mi):=⟨λA =>
 by obtain⟨a,kws,e1,e2,e3⟩:=A.sJ x kvs hd;exact by obtain⟨_,q1,s1⟩:=hi.h A;exact⟨_,DG e2 (rQ hg e1 hdb) q1 hs,fun ρ h H e σ Q v h' s r q P=>by
 obtain⟨y,h1,d1,q⟩:=bind_eq.mp q
 refine s1 ρ h H e σ _ y h1 s r d1 λy' ρ1 H1 g1 z1 r1=>?_
 split at q
 . rename_i key ek;split at q
   . rename_i w ew;cases q;obtain⟨u,f1,f2⟩:=RK.some (e3 ρ1 H1) ew;exact⟨key,u,fq ek r1,f1,P _ ρ1 H1 g1 z1 f2⟩
   . nomatch q
 . nomatch q⟩⟩
theorem LN(hd:pg.sJ x=TK kvs)(hg:Gl X x)(hi:JE X pg k i mi)(hdb:(x == ("__debug__" :Str))=false:=by decide)(hm:U7 .In (.Name x pos')=false:=by rfl):JE X pg k (.Compare i [.In] [.Name x pos'] pos) (rn false kvs mi):=⟨λA =>
 let ⟨a,kws,e1,e2,e3⟩:=A.sJ x kvs hd;let ⟨_,q1,s1⟩:=hi.h A;⟨_,L4 e2 q1 (rQ hg e1 hdb) hm,fun ρ h H e σ Q v h' s r q P=>by
 obtain⟨y,h1,d1,q⟩:=bind_eq.mp q
 refine s1 ρ h H e σ _ y h1 s r d1 λy' ρ1 H1 g1 z1 r1=>?_
 split at q
 . rename_i key ek;cases q;exact⟨key,fq ek r1,by rw[RK.is key (e3 ρ1 H1)];exact P _ ρ1 H1 g1 z1 (by rw[rel];rfl)⟩
 . nomatch q⟩⟩
theorem yS(hd:pg.sJ x=TK kvs)(hg:Gl X x)(hi:JE X pg k i mi)(hdb:(x == ("__debug__" :Str))=false:=by decide)(hm:U7 .NotIn (.Name x pos')=false:=by rfl):JT X pg k (.Compare i [.NotIn] [.Name x pos'] pos) (aX (rn true kvs mi)):=⟨λA =>
 let ⟨a,kws,e1,e2,e3⟩:=A.sJ x kvs hd;let ⟨_,q1,s1⟩:=hi.h A;⟨_,yp e2 q1 (rQ hg e1 hdb) hm,nL fun ρ h H e σ Q v h' s r q P=>by
 obtain⟨y,h1,d1,q⟩:=bind_eq.mp q
 refine s1 ρ h H e σ _ y h1 s r d1 λy' ρ1 H1 g1 z1 r1=>?_
 split at q
 . rename_i key ek;cases q;exact⟨key,fq ek r1,by rw[RK.is key (e3 ρ1 H1)];exact P _ ρ1 H1 g1 z1 (by rw[rel];rfl)⟩
 . nomatch q⟩⟩
end
section
variable{K:TQ}{X:Cx}{pg:Tb}{k:Nat}
noncomputable def gh:List PV->Option (List Str)
 | []=>TK []
 | .str x::r=>(gh r).map (x:: ·)
 | _=>TL
theorem tj: ∀{xs ss},gh xs=TK ss->xs=ss.map PV.str
 | [],bs,e=>by cases e;rfl
 | .str b::r,bs,e=>by
  rw[gh] at e;cases q:gh r with
  | none=>simp_all
  | some cs=>rw[q] at e;cases e;rw[tj q];rfl
 | .non::_,_,e=>by cases e
 | .bl _::_,_,e=>by cases e
 | .int _::_,_,e=>by cases e
 | .tup _::_,_,e=>by cases e
 | .ktup _::_,_,e=>by cases e
 | .ref _::_,_,e=>by cases e
 | .ty _::_,_,e=>by cases e
theorem qL: ∀ ss,gh (ss.map PV.str)=TK ss
 | []=>rfl
 | b::r=>by rw[T9,gh,qL r];rfl
theorem ja: ∀{ss:List Str}{vs},ai K ρ H (ss.map PV.str) vs↔vs=ss.map V.str
 | [],vs=>bG
 | b::t,vs=>by
  constructor
  . rintro ⟨v,w,rfl,r1,r2⟩;rw[r1,ja.mp r2];rfl
  . rintro rfl;exact⟨.str b,t.map V.str,rfl,by rw[rel],ja.mpr rfl⟩
noncomputable def Dd(q:Str × Int):PV:= .tup [.str q.1,.int q.2]
theorem RK.keys: ∀{kvs kws},RK K ρ H kvs kws->kws.map (·.1)=kvs.map (·.1)
 | _,_,.nil=>rfl
 | _,_,.cons a t=>by rw[T9,T9,RK.keys t,a.1]
theorem iU.of{P:UP}{w:U6}{K:TQ}{mg:Str->Option TY}{base:Vx}{pg:Tb}{f:String}{d:Df}(b:MS)(st:Xe)(N:List Str)(e:d.body=b)(a:At K mg (TU f) st)(S:cE N d.ps (aj st))(hl:N.length=d.ps.length+d.nl)
  (hb: ∀(kV doc pm:TY)(an:Option Uj)(cdv ct:TY)(us:List TY),us.length=d.ps.length->Wc (U2 (TU f) (TU f) (bD st) (aG st) (aj st) .none kV doc pm an cdv ct) ⟨us,[]⟩=pure (d.ps.zip us))
  (h: ∀(fa:Uj)(cdv:TY)(A:Vk)(outer:List Env)(s:Ua)(H:Hp)(E:XK)(k:Nat),tV (gj mV P w K mg base N (TU f) (aj st) fa cdv A outer s H E).lT pg k (aG st) b):iU P w K mg base pg f d :=
 ⟨st,N,a,S,hl,hb,by rw[e];exact h⟩
end
section
variable{X:Cx}{pins:List (Uj × Obj)}{σ :L2.St}{H:Hp}{s:Ua}{h':Vx}
theorem o6{turned:List Uj}(I:Inv X pins σ H s)(kp: ∀ b o,b ∉ turned->s.heap.get? b=TK o->h'.get? b=TK o)(fp: ∀ b∈turned,gx X pins H b):Inv X pins σ H { s with heap:=h',toks:=t'}:=by
 have away: ∀ b u,H b=TK u->b ∉ turned:=λb u e m=>by
  have:=(fp b m).1;rw[e] at this;cases this
 refine I.step (g':=s.gens) (d':=s.drawn) (ch:=turned) (λb m=>?_) (λb o _ _ n e _=>kp b o n e) (λb o _ _ n e _=>⟨o.slots,kp b o n e⟩) (λ_ _ _ _ e=>e) (λb o n e=>⟨o,kp b o n e⟩) (λ_ _ e=>e) (λ_ _ _ e=>e) (λb ps e=>⟨#[],by simp_all⟩) (λm hm=>?_) (λb u e=>?_) I.bare
 . obtain⟨_,a2,_,a4,a5,a6⟩:=fp b m;exact⟨a4,a2,a5,a6⟩
 . obtain⟨o,es,ep,ho,r⟩:=hm;exact⟨o,es,ep,kp _ o (λm=>(fp _ m).2.1 rfl) ho,r⟩
 . refine(I.bx b u e).uM (λc v hc q=>kp c v ?_ q) (λ_ q=>q) λ_ _ q=>q;rcases hc with z | z
   . rw[z];exact away b u e
   . exact away c _ z
theorem kF{turned:List Uj}{p:Uj}(I:Inv X pins σ H s)(kp: ∀ b o,b ∉ turned->s.heap.get? b=TK o->h'.get? b=TK o)(fp: ∀ b∈turned,gx X pins H b)(hp:s.heap.objs.size<=p)
  (new:bo X.prog X.w (upd H p (.tup vs)) h' p (.tup vs)):Inv X pins σ (upd H p (.tup vs)) { s with heap:=h',toks:=t'}:=by
 have hn:=I.bx.fresh hp;have away: ∀ b u,H b=TK u->b ∉ turned:=λb u e m=>by
  have:=(fp b m).1;rw[e] at this;cases this
 have old: ∀ b o,s.heap.get? b=TK o->b≠p:=λb o e z=>absurd (Ul (Uk e) (z ▸ hp)) (U5 _);refine I.step (g':=s.gens) (d':=s.drawn) (ch:=turned) (λb m=>?_) (λb o _ _ n e _=>kp b o n e) (λb o _ _ n e _=>⟨o.slots,kp b o n e⟩) (λb o _ e n=>by rw[av (old b o e)];exact n) (λb o n e=>⟨o,kp b o n e⟩)
  (λb xs e=>by rw[av (aE e hn)];exact e) (λb o u e=>by rw[av (aE e hn)];exact e) (λb ps e=>⟨#[],by rw[av (aE e hn),e];simp⟩) (λm hm=>?_) (λb u e=>?_) I.bare
 . obtain⟨_,a2,_,a4,a5,a6⟩:=fp b m;exact⟨a4,a2,a5,a6⟩
 . obtain⟨o,es,ep,ho,r⟩:=hm;exact⟨o,es,ep,kp _ o (λm=>(fp _ m).2.1 rfl) ho,r⟩
 . by_cases hb:b=p
   . subst hb;rw[aI] at e;cases e;exact new
   . rw[av hb] at e;refine(I.bx b u e).uM (λc v hc q=>kp c v ?_ q) (λc q=>by rw[av (aE q hn)];exact q) λc xs q=>by rw[av (aE q hn)];exact q
     rcases hc with z | z
     . rw[z];exact away b u e
     . exact away c _ z
end
def SQ(K : TQ)(a1 a2 : Uj) : It :=
  ⟨λi H => ∃ xs ys x y, fK K H a1 xs /\ fK K H a2 ys /\ xs[i]? = TK x /\ ys[i]? = TK y,
   λi H v H' => ∃ p x y, H p = TL /\ v = .ref p /\ H' = upd H p (.tup [x, y]) /\ (∀ xs, fK K H a1 xs -> xs[i]? = TK x) /\ ∀ ys, fK K H a2 ys -> ys[i]? = TK y,
   λi H => ∃ xs ys, fK K H a1 xs /\ fK K H a2 ys /\ (xs.length <= i ∨ ys.length <= i)⟩
theorem ya{TI TO}(Z:ur h z TI TO i1 i2 l1 l2 k)(kp: ∀ b∈[z,TI,TO,i1,i2],∀ o,h.get? b=TK o->h'.get? b=TK o):ur h' z TI TO i1 i2 l1 l2 k:=by
 obtain ⟨a,b,⟨u,v,c⟩,⟨o1,d1,d2⟩,⟨o2,e1,e2⟩⟩:=Z;exact ⟨kp _ (by simp) _ a,kp _ (by simp) _ b,⟨u,v,kp _ (by simp) _ c⟩,⟨o1,kp _ (by simp) _ d1,d2⟩,⟨o2,kp _ (by simp) _ e1,e2⟩⟩
theorem Aq{K TI TO}(D:WQ z TI TO i1 i2 a1 a2) :
  Turn P w K (.Tuple els j pos) (SQ K a1 a2) [z,TI,TO,i1,i2] z (λi h=>ur h z TI TO i1 i2 a1 a2 i) where
 mem:=by simp
 obj:=λi h Z b hb=>by
  obtain⟨e1,e2,⟨u,v,e3⟩,⟨o4,e4,_,d4⟩,⟨o5,e5,_,d5⟩⟩:=Z;simp only[UK,or_false,Uh] at hb;rcases hb with rfl | rfl | rfl | rfl | rfl
  . exact⟨_,e1,λv q=>by cases q⟩
  . exact⟨_,e2,λv q=>by cases q⟩
  . exact⟨_,e3,λv q=>by cases q⟩
  . exact⟨_,e4,λv q=>by rw[d4] at q;nomatch q⟩
  . exact⟨_,e5,λv q=>by rw[d5] at q;nomatch q⟩
 keep:=λi h h' Z kp=>ya Z kp
 item:=by
  intro X hP hw hK hc i pins s σ H E I hf Z hg;subst hP hw hK;obtain⟨xs,ys,x,y,s1,s2,ex,ey⟩:=hg;obtain⟨us,ru,pu,_⟩:=I.tuple s1;obtain⟨ws,rw',pw,_⟩:=I.tuple s2;obtain⟨ux,eu,rx⟩:=ru.get ex;obtain⟨uy,ew,ry⟩:=rw'.get ey;refine oW D Z pu pw (by simpa using eu) (by simpa using ew) λh1 f1 f2 f3 f4 f5 f6 f7=>⟨_,rfl,?_⟩
  refine wpAny_letOwnedTupleGo_zip (s:={ s with heap:=h1}) f1 λh2 g1 g2=>?_;have ex1:=g2.extBut;have zlt:=Uk Z.zd;have pz:=VR zlt;have new:=ex1 _ _ pz f6;have hn:=I.bx.fresh (T6 _);have I2:Inv X pins σ (upd H s.heap.objs.size (.tup [x,y])) { s with heap:=h2,toks:=s.toks}:=by
   refine kF (turned:=[z,TO,i1,i2]) I (λb o nb e=>?_) (λb hb=>hf b ?_) (T6 _) ?_
   . simp only[Uh,UK,or_false,not_or] at nb;exact ex1 _ _ nb.1 (f7 b o nb.1 nb.2.1 nb.2.2.1 nb.2.2.2 e)
   . simp only[Uh,UK,or_false] at hb ⊢;rcases hb with rfl | rfl | rfl | rfl<;>simp
   . exact⟨by show 2<=Ub;decide,[ux,uy],.cons rx (.cons ry .nil),_,new,rfl,_,rfl,rfl⟩
  refine⟨.ref s.heap.objs.size,upd H s.heap.objs.size (.tup [x,y]),I2,rfl,⟨_,x,y,hn,rfl,rfl,λxs' q=>?_,λys' q=>?_⟩,?_,λb hb=>?_⟩
  . rw[I.kC q s1];exact ex
  . rw[I.kC q s2];exact ey
  . obtain⟨o4,e4,c4⟩:=f4;obtain⟨o5,e5,c5⟩:=f5;exact⟨g1,ex1 _ _ D.TIz f2,⟨_,_,ex1 _ _ D.TOz f3⟩,⟨o4,ex1 _ _ D.i1z e4,c4⟩,⟨o5,ex1 _ _ D.i2z e5,c5⟩⟩
  . have hb0:=(hf b hb).1;have: ∃ o,s.heap.get? b=TK o:=by
     obtain⟨e1,e2,⟨u,v,e3⟩,⟨o4,e4,_⟩,⟨o5,e5,_⟩⟩:=Z;simp only[UK,or_false,Uh] at hb;rcases hb with rfl | rfl | rfl | rfl | rfl
     . exact⟨_,e1⟩
     . exact⟨_,e2⟩
     . exact⟨_,e3⟩
     . exact⟨_,e4⟩
     . exact⟨_,e5⟩
    obtain⟨o,eo⟩:=this;rw[av (UN (Uk eo))];exact hb0
 done:=by
  intro X hP hw hK hc i pins s σ H E I hf Z hg;subst hP hw hK;obtain⟨xs,ys,s1,s2,he⟩:=hg;obtain⟨us,ru,pu,_⟩:=I.tuple s1;obtain⟨ws,rw',pw,_⟩:=I.tuple s2;refine pG (I.ok.hd hc) D Z pu pw ?_ λh1 kp=>⟨rfl,o6 (turned:=[z,TO,i1,i2]) (t':=s.toks) I (λb o nb e=>?_) λb hb=>hf b ?_⟩
  . have l1:=ru.length;have l2:=rw'.length;rcases he with he | he
    . simp_all
    . simp_all
  . simp only[Uh,UK,or_false,not_or] at nb;exact kp b o nb.1 nb.2.1 nb.2.2.1 nb.2.2.2 e
  . grind
 self:=λA i s Q E Z h=>YJ Z.zd h
abbrev tI(a:Uj):Obj:={ cls:= .type "tuple_iterator",data:= .fields #[.ref a,.int 0 0]}
abbrev Rg(h:Vx)(a b:Uj):Vx :=
 V2 (V2 (V2 (V2 (V2 h (tI a)) (tI b)) { cls:= .type "tuple",data:= .seq #[.ref h.objs.size,.ref (h.objs.size+1)]}) { cls:= .type "tuple",data:= .seq #[.none,.none]})
  { cls:= .type "zip",data:= .fields #[.none,.bool false,.bool false,.ref (h.objs.size+2),.ref (h.objs.size+3)]}
theorem sj a b us ws:Meets (Xl.«zip.__new__» ⟨[.type "zip",.ref a,.ref b],[]⟩) (λ_ R u=>u.heap.IsTuple a us/\u.heap.IsTuple b ws/\R (.ok (.ret (.ref (u.heap.objs.size+4)))) { u with heap:=Rg u.heap a b}) :=
 .of_wp λprog w A R u hu=>by
  obtain⟨hp,gg,dd,tk,os⟩:=u;obtain⟨ha,hb,hr⟩:=hu;have sub:=sub_zip;have fa:=ha;have fb:Heap.IsTuple (Shared.heap ⟨hp.push (tI a),gg,dd,tk,os⟩) b ws:=by obtain⟨o,e,c⟩:=hb;exact⟨o,T1 _ e,c⟩
  wp_walk using Yc fa,Yc fb
  refine⟨_,rfl,?_⟩;simp only[Vu];exact hr
section
variable{X:Cx}{pg:Tb}{k:Nat}{a b:UR}{ma mb:ME}{p pos:Pos}{els:List UR}{j:Nat}{tpos:Pos}
theorem L6 h l1 l2:ur (Rg h l1 l2) (h.objs.size+4) (h.objs.size+2) (h.objs.size+3) h.objs.size (h.objs.size+1) l1 l2 0/\(Rg h l1 l2).objs.size=h.objs.size+5:=by
 have n1:(V2 h (tI l1)).objs.size=h.objs.size+1:=Vu ..;have n2:(V2 (V2 h (tI l1)) (tI l2)).objs.size=h.objs.size+2:=by rw[Vu,n1]
 have n3:(V2 (V2 (V2 h (tI l1)) (tI l2)) { cls:= .type "tuple",data:= .seq #[.ref h.objs.size,.ref (h.objs.size+1)]}).objs.size=h.objs.size+3:=by rw[Vu,n2]
 have n4:(V2 (V2 (V2 (V2 h (tI l1)) (tI l2)) { cls:= .type "tuple",data:= .seq #[.ref h.objs.size,.ref (h.objs.size+1)]}) { cls:= .type "tuple",data:= .seq #[.none,.none]}).objs.size=h.objs.size+4:=by rw[Vu,n3]
 refine⟨⟨?_,?_,⟨.none,.none,?_⟩,⟨tI l1,?_,rfl,rfl⟩,⟨tI l2,?_,rfl,rfl⟩⟩,by rw[Vu,n4]⟩
 . rw[<- n4];exact Up _ rfl
 . refine T1 _ (T1 _ ?_);rw[<- n2];exact Up _ rfl
 . refine T1 _ ?_;rw[<- n3];exact Up _ rfl
 . exact T1 _ (T1 _ (T1 _ (T1 _ (Up _ rfl))))
 . refine T1 _ (T1 _ (T1 _ ?_));rw[<- n1];exact Up _ rfl
def Nu(K:TQ)(ta:TA):TI:=fun σ H R=>ta σ H λvs H1=> ∃ a1 a2 xs ys,vs=[.ref a1,.ref a2]/\fK K H1 a1 xs/\fK K H1 a2 ys/\R (SQ K a1 a2) H1
theorem Mo(hg:Gl X "zip")(hm:X.mg "zip" =TL)(ha:PA X [a,b] ta)(hs:UH [a,b] X.env=[(false,Vl a X.env),(false,Vl b X.env)])(hs2:UH [b] X.env=[(false,Vl b X.env)]) :
  PI X (.Tuple els j tpos) (.Call (.Name "zip" p) [a,b] [] pos) (Nu X.K ta):=by
 intro pins s σ H R I h;refine Call_ (gO I hg hm boot_zip (U9 (Ff (ha pos pins s σ H _ I h) λus s1 vs H1 I1 r1 ⟨a1,a2,xs,ys,e,q1,q2,q⟩=>?_) (by simp_all) (by rw[hs2];rfl)));subst e;cases r1 with
 | cons ra rr =>
  cases rr with
  | cons rb rr =>
   cases rr
   cases ra
   cases rb
   obtain⟨u1,_,p1,_⟩:=I1.tuple q1
   obtain⟨u2,_,p2,_⟩:=I1.tuple q2
   refine callType_new F.called_zip (by decide) (F.typeCall_zip_2 _ _) (F.newCall_zip_2 _ _) (λobj=>F.args_object_init_3 obj _ _) F.entry_zip_new (sj a1 a2 u1.toArray u2.toArray) ⟨p1,p2,?_⟩
   obtain⟨Z,zs⟩:=L6 s1.heap a1 a2
   have lt1:=let ⟨_,e,_⟩:=p1;Uk e
   have lt2:=let ⟨_,e,_⟩:=p2;Uk e
   refine⟨⟨_,Z.zd,rfl⟩,YJ Z.zd ?_⟩
   have kp: ∀ c o,s1.heap.get? c=TK o->(Rg s1.heap a1 a2).get? c=TK o:=λc o e=>T1 _ (T1 _ (T1 _ (T1 _ (T1 _ e))))
   refine⟨s1.heap.objs.size+4,[s1.heap.objs.size+4,s1.heap.objs.size+2,s1.heap.objs.size+3,s1.heap.objs.size,s1.heap.objs.size+1],_,_,H1,rfl,I1.kept (t':=s1.toks) kp,Aq (zipApart_new lt1 lt2),Z,λc hc=>?_,q⟩
   have hle:s1.heap.objs.size<=c:=by
    grind
   exact I1.zb hle (I1.bx.fresh hle)
def Dz(a b:ME):MI:=λc e h=>(a c e h).bind λx h1=>(b c e h1).bind λy h2=>match x.seq?,y.seq? with
 | some xs,TK ys=> .ok ⟨TL,(xs.zip ys).map λp=> .tup [p.1,p.2]⟩ h2
 | _,_=> .no
theorem Kd(hg:Gl X "zip")(ha:JE X pg k a ma)(hb:JE X pg k b mb)(hs1:noStar a=true:=by rfl)(hs2:noStar b=true:=by rfl):JI X pg k (.Tuple els j tpos) (.Call (.Name "zip" p) [a,b] [] pos) (Dz ma mb):=⟨λA =>
 let ⟨_,q1,s1⟩:=ha.h A;let ⟨_,q2,s2⟩:=hb.h A
 ⟨_,⟨Mo hg (A.blt _ (by decide +kernel)) (qk q1 (qk q2 rF hs2) hs1).h (by rw[a9 hs1,a9 hs2];rfl) (by rw[a9 hs2];rfl)⟩,fun ρ h H e σ R it h' s r q P=>by
 obtain⟨x,h1,e1,q⟩:=bind_eq.mp q
 obtain⟨y,h2,e2,q⟩:=bind_eq.mp q
 refine s1 ρ h H e σ _ x h1 s r e1 λx' ρ1 H1 g1 z1 r1=>?_
 refine s2 ρ1 h1 H1 e σ _ y h2 z1 (r.gr g1) e2 λy' ρ2 H2 g2 z2 r2=>?_
 split at q
 . rename_i xs ys ex ey;cases q;obtain⟨a1,us,rfl,t1,d1⟩:=rel.seq ex (rel.gr g2 _ _ r1);obtain⟨a2,ws,rfl,t2,d2⟩:=rel.seq ey r2;refine⟨a1,a2,us,ws,rfl,t1,t2,P ρ2 H2 _ (g1.trans g2) z2 λi ρ3 h3 H3 g s3 _=>⟨λv ev=>?_,λei=>?_⟩⟩
   . rw[U1] at ev;cases ez:(xs.zip ys)[i]? with
     | none=>simp_all
     | some pr =>
      rw[ez] at ev
      cases ev
      obtain⟨zx,zy⟩:=Yh.mp ez
      obtain⟨u,f1,f2⟩:=(ai.gr g _ _ d1).get zx
      obtain⟨w,f3,f4⟩:=(ai.gr g _ _ d2).get zy
      refine⟨⟨us,ws,u,w,g.LU t1,g.LU t2,f1,f3⟩,?_⟩
      rintro v' H' ⟨p,u',w',hp,rfl,rfl,k1,k2⟩
      have:=k1 us (g.LU t1)
      rw[f1] at this;cases this
      have:=k2 ws (g.LU t2)
      rw[f3] at this;cases this
      have gn:Gr ρ3 H3 ρ3 (upd H3 p (.tup [u,w])):=Gr.pR hp
      refine⟨ρ3,gn,s3.tup hp,?_⟩
      exact⟨p,_,rfl,aI,ar.mpr ⟨_,_,rfl,rel.gr gn _ _ f2,ai.one (rel.gr gn _ _ f4)⟩⟩
   . refine⟨us,ws,g.LU t1,g.LU t2,?_⟩;have:i=min xs.length ys.length:=by simpa using ei
     rw[<- d1.len,<- d2.len];omega
 . cases q⟩⟩
end
structure cA(P:UP)(w:U6)(K:TQ)(mg:Str->Option TY)(pg:Tb)(f:String)(d:Df)(st:Xe)(N:List Str):Prop where
 at_:At K mg (TU f) st
 sc:cE N d.ps (aj st)
 len:N.length=d.ps.length+d.nl
 bd: ∀(kV doc pm:TY)(an:Option Uj)(cdv ct:TY)(us:List TY),us.length=d.ps.length->Wc (U2 (TU f) (TU f) (bD st) (aG st) (aj st) .none kV doc pm an cdv ct) ⟨us,[]⟩=pure (d.ps.zip us)
 body: ∀(base:Vx)(fa:Uj)(cdv:TY)(A:Vk)(outer:List Env)(s:Ua)(H:Hp)(E:XK)(k:Nat),tV (gj mV P w K mg base N (TU f) (aj st) fa cdv A outer s H E).lT pg k (aG st) d.body
section
variable{P:UP}{w:U6}{K:TQ}{mg:Str->Option TY}{pg:Tb}
theorem cA.of{f:String}{d:Df}(b:MS){st:Xe}{N:List Str}(e:d.body=b)(a:At K mg (TU f) st)(S:cE N d.ps (aj st))(hl:N.length=d.ps.length+d.nl)
  (hb: ∀(kV doc pm:TY)(an:Option Uj)(cdv ct:TY)(us:List TY),us.length=d.ps.length->Wc (U2 (TU f) (TU f) (bD st) (aG st) (aj st) .none kV doc pm an cdv ct) ⟨us,[]⟩=pure (d.ps.zip us))
  (h: ∀(base:Vx)(fa:Uj)(cdv:TY)(A:Vk)(outer:List Env)(s:Ua)(H:Hp)(E:XK)(k:Nat),tV (gj mV P w K mg base N (TU f) (aj st) fa cdv A outer s H E).lT pg k (aG st) b):cA P w K mg pg f d st N :=
 ⟨a,S,hl,hb,by rw[e];exact h⟩
theorem cA.good{st}(g:cA P w K mg pg f d st N):iU P w K mg base pg f d:=⟨st,N,g.at_,g.sc,g.len,g.bd,g.body base⟩
theorem zI{fnT:List (String × Df)}(hf:pg.fns=λf=>(fnT.find? λp=>p.1 == f).map (·.2))(h: ∀ p∈fnT,∃ st N,cA P w K mg pg p.1 p.2 st N) base: ∀ f d,pg.fns f=TK d->iU P w K mg base pg f d:=λf d e=>by
 rw[hf] at e;dsimp only at e;cases q:fnT.find? λp=>p.1 == f with
 | none=>simp_all
 | some p =>
  rw[q] at e
  cases e
  obtain⟨st,N,g⟩:=h p (VE q)
  have:p.1=f:=by simpa using W3 q
  rw[<- this]
  exact g.good
theorem Lk{k:Nat}{d:Df}{st:Xe}{N:List Str}{fa:Uj}{x:Str}(T:Top P w K mg pg)(G: ∀ base f d,pg.fns f=TK d->iU P w K mg base pg f d)(hf:pg.fns "law" =TK d)(hx:d.ps=[x])(g:cA P w K mg pg "law" d st N)(hfa:mg "law" =TK (.ref fa)) :
  ∃ fd:WD,(∀(s:Ua)(v:TY),YR s fd ⟨[v],[]⟩ [(x,v)])/\ ∀ base:Vx,K.In base->base.Ns UL mg->gi P w K mg base mV (k+1) fa fd [x] (jQ K pg (k+1) "law"):=by
 obtain⟨f,fd,F,hm⟩:=g.at_;have e:=hfa.symm.trans hm;cases e;refine⟨fd,λs v=> .of_eq ?_,λbase _ _=>?_⟩
 . have:=vI.args F g.bd [v] (by rw[hx];rfl);rw[this,hx];rfl
 . have S:=g.sc;rw[hx] at S;refine vI.QX F S (λvs H Q E ⟨ρ,h,args,v,h',_,r,q,_⟩=>by rw[<- r.len,(nK (sZ hf) q).1,hx]) ?_;intro fa cdv A outer s H vs Q E hr h;have tbl:=yb T (G base) k;have amb:cC (gj mV P w K mg base N (TU "law") (aj st) fa cdv A outer s H E).lT pg k:=⟨hr,rfl,λ_ _ z=>z,tbl.1,T.blt,T.con,T.sJ,T.ct,tbl.2⟩
   obtain⟨t,qt,st'⟩:=(g.body base fa cdv A outer s H E k).h amb;exact⟨t,qt,kY (sZ hf) g.len st' h⟩
end
theorem Jj{K}(hl: ∀ ns:List Int,ns.length<=63->Ok (run pg k "law" [.ref 0] [.jW (ns.map PV.int)]) λv _=>v= .bl true) H a (ns:List Int) (hn:ns.length<=63) (o:AV H) (q:fA K H a (ns.map V.int)) :
  jQ K pg k "law" [.ref a] H (λv _=>v= .bl true) E:=by
 obtain⟨v,h',e,rfl⟩:=hl ns hn;refine⟨[a],_,[.ref 0],_,h',⟨rfl,λi j b oi oj ei ej mi mj _ _=>?_,λi ob b ei eb=>?_⟩,ai.one (by exact⟨a,rfl,rfl⟩),e,λv' ρ' H' g s r=>by exact r⟩
 . cases i with
   | zero=>simp at ei;subst ei;cases mi
   | succ i=>simp at ei
 . cases i with
   | zero =>
    simp at ei eb
    subst ei eb
    exact⟨_,Kf o q,ai.ints ns⟩
   | succ i=>simp at ei
section
variable{P:UP}{w:U6}{K:TQ}{mg:Str->Option TY}{pg:Tb}
theorem GA{conT:List (Str × PV)}(hc:pg.con=λx=>(conT.find? λp=>decide (p.1=x)).map (·.2))(h: ∀ p∈conT,∃ u v',mg p.1=TK u/\RelV v' u/\yJ K v'/\ ∀ ρ H,rel K ρ H p.2 v'): ∀ x v,pg.con x=TK v-> ∃ u v',mg x=TK u/\RelV v' u/\yJ K v'/\ ∀ ρ H,rel K ρ H v v':=λx v e=>by
 rw[hc] at e;dsimp only at e;cases q:conT.find? λp=>decide (p.1=x) with
 | none=>simp_all
 | some p =>
  rw[q] at e
  cases e
  have:p.1=x:=by simpa using W3 q
  rw[<- this]
  exact h p (VE q)
theorem Fd{dcT:List (Str × List (Key × PV))}(hc:pg.sJ=λx=>(dcT.find? λp=>decide (p.1=x)).map (·.2))(h: ∀ p∈dcT,∃ a kws,mg p.1=TK (.ref a)/\KD P w K a kws/\ ∀ ρ H,RK K ρ H p.2 kws) :
  ∀ x kvs,pg.sJ x=TK kvs-> ∃ a kws,mg x=TK (.ref a)/\KD P w K a kws/\ ∀ ρ H,V7 (λ(p:Key × PV) (q:Key × V)=>p.1=q.1/\rel K ρ H p.2 q.2) kvs kws:=λx v e=>by
 rw[hc] at e;dsimp only at e;cases q:dcT.find? λp=>decide (p.1=x) with
 | none=>simp_all
 | some p =>
  rw[q] at e
  cases e
  have:p.1=x:=by simpa using W3 q
  rw[<- this]
  exact h p (VE q)
inductive CV:PV->TY->Prop where
 | int (i:Int) (t:Tok):CV (.int i) (.int i t)
 | str (x:Str) (t:Tok):CV (.str x) (.str x t)
theorem CV.v(c:CV x u): ∃ v,RelV v u/\ ∀ ρ H,rel K ρ H x v:=by
 cases c with
 | int i t=>exact⟨.int i,⟨t,rfl⟩,λ_ _=>by rw[rel]⟩
 | str z t=>exact⟨.str z,⟨t,rfl⟩,λ_ _=>by rw[rel]⟩
theorem S2.v: ∀{xs us},V7 CV xs us-> ∃ vs,Vals vs us/\ ∀ ρ H,ai K ρ H xs vs
 | _,_,.nil=>⟨[],.nil,λ_ _=>bG.mpr rfl⟩
 | _,_,.cons c t=>by obtain⟨v,a,b⟩:=CV.v c;exact by obtain⟨vs,d,e⟩:=S2.v t;exact⟨v::vs,.cons a d,fun ρ H=>ar.mpr ⟨v,vs,rfl,b ρ H,e ρ H⟩⟩
theorem uc(hl:K.lookup a=TK ⟨.type "tuple",d,.seq us.toArray n,sl⟩)(hz:us.length<=Ub)(h:V7 CV xs us) ρ H:rel K ρ H (.ktup xs) (.ref a):=by
 obtain⟨vs,r,q⟩:=S2.v (K:=K) h;exact⟨a,vs,rfl,⟨_,us.toArray,n,hl,rfl,rfl,by omega,by omega⟩,q ρ H⟩
theorem fN{x:Str}{v:PV}{u:TY}(hm:mg x=TK u)(c:CV v u): ∃ u v',mg x=TK u/\RelV v' u/\yJ K v'/\ ∀ ρ H,rel K ρ H v v':=by obtain⟨v',a,b⟩:=CV.v (K:=K) c;exact⟨u,v',hm,a,(λp e=>by subst e;cases(show u=Uv p from a);cases c),b⟩
theorem Gb{x:Str}{a:Uj}{us:List TY}{n:Nat}{sl:Array (Option TY)}{xs:List PV}(hm:mg x=TK (.ref a))(hl:K.lookup a=TK ⟨.type "tuple",TL,.seq us.toArray n,sl⟩)(hz:us.length<=Ub)(h:V7 CV xs us) :
  ∃ u v',mg x=TK u/\RelV v' u/\yJ K v'/\ ∀ ρ H,rel K ρ H (.ktup xs) v':=⟨_,.ref a,hm,rfl,λp e=>by cases e;exact⟨_,hl,rfl,rfl⟩,uc hl hz h⟩
def DV(K:TQ) x (u:TY):= ∃ v,RelV v u/\ ∀ ρ H,rel K ρ H x v
theorem qN(c:CV x u):DV K x u:=CV.v c
theorem d7(hl:K.lookup a=TK ⟨.type "tuple",d,.seq us.toArray n,sl⟩)(hz:us.length<=Ub)(h:V7 CV xs us):DV K (.ktup xs) (.ref a):=⟨.ref a,rfl,uc hl hz h⟩
theorem mN(h:V7 (λ(p) (l:Str × Tok × TY)=>p.1= .inr l.1/\DV K p.2 l.2.2) kvs ls): ∃ kws,KV kws (ls.map λp=>((Xv p.1),p.2.2))/\ ∀ ρ H,RK K ρ H kvs kws:=by
 induction h with
 | nil=>exact⟨[],.nil,λ_ _=> .nil⟩
 | @cons p l ps qs a t ih =>
  obtain⟨kws,r,q⟩:=ih
  obtain⟨e,v,r1,r2⟩:=a
  exact⟨(.inr l.1,v)::kws,.cons ⟨rfl,r1⟩ r,fun ρ H=> .cons ⟨e,r2 ρ H⟩ (q ρ H)⟩
theorem zP{x:Str}{a:Uj}{ls:List (Str × Tok × TY)}{kvs:List (Key × PV)}{ep:Nat}(hm:mg x=TK (.ref a))(hl:K.lookup a=TK { cls:= .type "dict",data:= .dict (ls.map (PU w)).toArray ep})(ha:(a == VX)=false)(hn:(ls.map λp=>(Xv p.1:Key)).Nodup)
  (h:V7 (λ(p:Key × PV) (l:Str × Tok × TY)=>p.1= .inr l.1/\DV K p.2 l.2.2) kvs ls): ∃ a kws,mg x=TK (.ref a)/\KD P w K a kws/\ ∀ ρ H,RK K ρ H kvs kws:=by
 obtain⟨kws,r,q⟩:=mN h;exact⟨a,kws,hm,Oa hl ha hn r,q⟩
end
abbrev J0(ak:List TY)(n:Nat)(dd:Option Uj)(sl:Array (Option TY)):Obj:={ cls:= .type "tuple",dict:=dd,data:= .seq ak.toArray n,slots:=sl}
theorem wc(h1: -(2 ^ 63)<=k)(h2:k < 2 ^ 63): ¬ (decide (k < -(2 ^ 63))||decide (k ≥ 2 ^ 63))=true:=by
 simp_all
theorem vH l ak n k u dd sl (h1: -(2 ^ 63)<=k) (h2:k < 2 ^ 63) (hs:(ak.toArray.isEmpty||k == 1)=true) :
  Meets (Xl.«tuple.__mul__» ⟨[.ref l,.int k u],[]⟩) (λ_ R s=>s.heap.get? l=TK (J0 ak n dd sl)/\R (.ok (.ret (.ref l))) s) :=
 .of_wp λprog w A R s h=>by
  obtain⟨hl,h⟩:=h;refine VN (λz=>absurd z (wc h1 h2)) (λ_=>?_)
  wp_walk using Vo hl,WO hl
  refine VN (λ_=>?_) (λz=>absurd hs z)
  wp_walk using Vo hl,WO hl
  exact⟨_,rfl,h⟩
theorem vw l ak n k u dd sl (h1: -(2 ^ 63)<=k) (h2:k<=0) (hs: ¬ (ak.toArray.isEmpty||k == 1)=true) :
  Meets (Xl.«tuple.__mul__» ⟨[.ref l,.int k u],[]⟩) (λ_ R s=>s.heap.get? l=TK (J0 ak n dd sl)/\R (.ok (.ret (.ref s.heap.objs.size))) { s with heap:=s.heap.push { cls:= .type "tuple",data:= .seq #[]}}) :=
 .of_wp λprog w A R s h=>by
  obtain⟨hl,h⟩:=h;have hz:(decide (k<=0)||ak.toArray.isEmpty)=true:=by simp[h2]
  refine VN (λz=>absurd z (wc h1 (by omega))) (λ_=>?_)
  wp_walk using Vo hl,WO hl
  refine VN (λz=>absurd z hs) (λ_=>?_);refine VN (λ_=>?_) (λz=>absurd hz z);exact TM (m:=Vn _) (Vi (Ud ⟨_,rfl,h⟩) (by size_fits))
theorem vv l ak n (k:Int) u dd sl (h1:0 < k) (h2:(ak.length)*k<=100000) (hk:k<=100000) (hs: ¬ (ak.toArray.isEmpty||k == 1)=true) :
  Meets (Xl.«tuple.__mul__» ⟨[.ref l,.int k u],[]⟩) (λ_ R s=>s.heap.get? l=TK (J0 ak n dd sl)/\R (.ok (.ret (.ref s.heap.objs.size))) { s with heap:=s.heap.push { cls:= .type "tuple",data:= .seq (Ue k.toNat ak).flatten.toArray}}) :=
 .of_wp λprog w A R s h=>by
  obtain⟨hp,g,d,tk,os⟩:=s;obtain⟨hl,h⟩:=h;have f1:=AutoSeq1.idx_int;have hz: ¬ (decide (k<=0)||ak.toArray.isEmpty)=true:=by
   simp_all
  have hc1: ¬ ((ak.toArray.size)*k > (2 ^ 63 - 1) / 8):=by rw[Ux];omega
  have hc2: ¬ (Yd ((ak.toArray.size)*k)=true):=by
   unfold Yd;rw[Ux,decide_eq_true_eq,show((Ub))=16777216 from by decide];omega
  have e0:aa0 (λx1 x2=>x1++x2) #[] (Ue k.toNat ak.toArray)=(Ue k.toNat ak).flatten.toArray:=by
   have:=foldl_rep ak k.toNat [];rw[UU] at this;exact this
  wp_walk using Vo hl,WO hl
  refine VN (λz=>absurd z (wc (by omega) (by omega))) (λ_=>?_)
  wp_walk using Vo hl,WO hl
  refine VN (λz=>absurd z hs) (λ_=>?_);refine VN (λz=>absurd z hz) (λ_=>?_);refine VN (λhab=>absurd hab hc1) (λ_=>?_);refine VN (λhab=>absurd hab hc2) (λ_=>?_);refine TM (m:=Vn _) (Vi (Ud ⟨_,rfl,?_⟩) ?_)
  . rw[e0];exact h
  . rw[e0];show(Ue k.toNat ak).flatten.toArray.size<=Ub;rw[Ux,len_rep,aas];refine UQ (show ak.length*k.toNat<=100000 from ?_) (by decide);have e1:((ak.length*k.toNat:Nat))=(ak.length)*k:=by rw[Int.natCast_mul,Int.toNat_of_nonneg (by omega)]
    omega
def LP(K:TQ):R2:=λx y H Q=> ∃ a k xs,x= .ref a/\y= .int k/\fK K H a xs/\(xs.length)*k<=100000/\ -100000<=k/\k<=100000/\(xs=[]\/k=1->Q (.ref a) H)/\(¬ (xs=[]\/k=1)-> ∀ p,H p=TL->Q (.ref p) (upd H p (.tup (Ue k.toNat xs).flatten)))
theorem BB:cT X (VC .Mult) (LP X.K):=by
 intro pins s σ H x y v u Q I rx ry h;obtain⟨a,k,xs,rfl,rfl,ha,hl,k1,k2,q1,q2⟩:=h;cases(show v=Uv a from rx);obtain⟨t,rfl⟩:=ry;obtain⟨ak,r1,p1,_⟩:=I.tuple ha;obtain⟨⟨cls,dd,data,sl⟩,ho,hc,n,hd⟩:=id p1;simp only at hc hd;subst hc hd;have hlen:=r1.length;refine Yf (T:= "tuple") (U:= "int") (by decide) ⟨_,ho,rfl⟩ (λs'=>YV s' k t) kI PySem.F.fills_int_mul Zm sr PySem.F.slot_int_index.lookup
  (VS Zm (YV s k t) PySem.F.entry_int_rmul (PySem.F.args_int_rmul_2 _ _) (ny k t a ak.toArray n dd sl) ⟨ho,rfl,⟨_,ho,rfl⟩,?_⟩)
 have hx:=(r1.mY).symm;by_cases hs:xs=[]\/k=1
 . have hb:(ak.toArray.isEmpty||k == 1)=true:=by
    simp_all
   exact VS V9 ⟨_,ho,rfl⟩ Xd (WZ _ _) (vH a ak n k t dd sl (by omega) (by omega) hb) ⟨ho,⟨.ref a,H,I,rfl,q1 hs⟩⟩
 . have hb: ¬ (ak.toArray.isEmpty||k == 1)=true:=λz=>hs (by
    rw[XH] at z;rcases z with z | z
    . exact .inl (hx.mpr (by simpa using z))
    . exact .inr (by simpa using z))
   by_cases hk:0 < k
   . refine VS V9 ⟨_,ho,rfl⟩ Xd (WZ _ _) (vv a ak n k t dd sl hk (by rw[<- hlen];exact hl) k2 hb) ⟨ho,?_⟩;refine⟨.ref s.heap.objs.size,_,I.laid (t':=s.toks) (o:= .tup (Ue k.toNat xs).flatten) (λb ob q=>T1 _ q) (T6 _) ?_,rfl,q2 hs _ (I.bx.fresh (T6 _))⟩;refine⟨?_,_,r1.rep k.toNat,pM.new _ _⟩;rw[len_rep,aas];refine UQ (show xs.length*k.toNat<=100000 from ?_) (by decide);have e1:((xs.length*k.toNat:Nat))=(xs.length)*k:=by grind
     omega
   . refine VS V9 ⟨_,ho,rfl⟩ Xd (WZ _ _) (vw a ak n k t dd sl (by omega) (by omega) hb) ⟨ho,?_⟩;refine⟨.ref s.heap.objs.size,_,I.laid (t':=s.toks) (o:= .tup (Ue k.toNat xs).flatten) (λb ob q=>T1 _ q) (T6 _) ?_,rfl,q2 hs _ (I.bx.fresh (T6 _))⟩;have:k.toNat=0:=by omega
     rw[this];exact⟨Vp _,[],.nil,pM.new _ _⟩
section
variable{X:Cx}{pg:Tb}{k:Nat}
theorem ai.rep{K}(r:ai K ρ H xs vs): ∀ n,ai K ρ H (Ue n xs).flatten (Ue n vs).flatten
 | 0=>bG.mpr rfl
 | n+1=>by exact r.app (r.rep n)
def oP:PV->PV->PH->RV PV:=λx y h=>match x,y with
 | .int i,.int j=>if (-(2 ^ 64) < i/\i < 2 ^ 64)\/(-(2 ^ 64) < j/\j < 2 ^ 64) then .ok (.int (i*j)) h else .no
 | .tup xs,.int k=>if (xs.length)*k<=100000/\ -100000<=k/\k<=100000 then .ok (.tup (Ue k.toNat xs).flatten) h else .no
 | .ref n,.int k=>(match h[n]? with
  | some (.lst xs)=>if (-(2 ^ 63)<=k/\k < 2 ^ 63)/\xs.length*k.toNat<=Ub then .ok (.ref h.length) (h++[.lst (Ue k.toNat xs).flatten]) else .no
  | _=> .no)
 | _,_=> .no
theorem K7:cC X pg k-> ∃ r,cT X (VC .Mult) r/\kZ X.K r oP:=λ_=>⟨_,HY.or (BB.or Jf),fun ρ h H x y x' y' Q v h' s rx ry q P=>by
 unfold oP at q;split at q
 . split at q
   . rename_i hc;cases q;exact .inl ⟨_,_,rx,ry,hc,P _ ρ H (.refl _ _) s (by rw[rel])⟩
   . nomatch q
 . rename_i xs k;split at q
   . rename_i hc;cases q;have rx':=rx;obtain⟨a,us,rfl,e2,e3⟩:=rx;refine .inr (.inl ⟨a,k,us,rfl,ry,.of e2,by rw[<- e3.len];exact hc.1,hc.2.1,hc.2.2,λz=>?_,λz p hp=>mR s (e3.rep _) P p hp⟩);have:(Ue k.toNat xs).flatten=xs:=by
      rcases z with z | z
      . subst z;have:=XC e3.len;subst this;simp
      . rw[z];simp[Ue]
     rw[this] at P;exact P _ ρ H (.refl _ _) s rx'
   . nomatch q
 . split at q
   . rename_i xs en;split at q
     . rename_i hc;cases q;obtain⟨a,us,rfl,_,e1,e2⟩:=s.lst en rx;exact .inr (.inr ⟨a,_,us,rfl,ry,e1,hc.1.1,hc.1.2,by rw[<- e2.len];exact hc.2,λp hp=>gW s (e2.rep _) P p hp⟩)
     . nomatch q
   . nomatch q
 . nomatch q⟩
end
def fin h (r:RV Fl):=match r with
 | .ok (.rt v) h'=>settle h v h'
 | .ok (.nx _) h'=>settle h .non h'
 | .ok _ _=> .no
 | .ex c us h'=> .ex c us h'
 | .no=> .no
theorem run_eq{pg:Tb}{k:Nat}{f:String}{d:Df}{vs:List PV}{h:PH}(hf:pg.fns f=TK d)(hn:vs.length=d.ps.length):run pg (k+1) f vs h=fin h (d.body (run pg k) (vs.map TK++Ue d.nl TL) h):=by
 rw[run,sZ hf];simp only[if_pos hn];rfl
theorem dn{pg:Tb}{k:Nat}{f:String}{c:String}{m:Str}{d:Df}{vs:List PV}{h:PH}(hf:pg.fns f=TL)(hm:pg.qE f=TK (c,m,d))(hn:vs.length=d.ps.length):run pg (k+1) f vs h=fin h (d.body (run pg k) (vs.map TK++Ue d.nl TL) h):=by
 have:pg.df f=TK d:=by unfold Tb.df;rw[hf,hm];rfl
 rw[run,this];simp only[if_pos hn];rfl
theorem aF:(RV.ok a h).bind f=f a h:=(rfl)
theorem fh:fin h (.ok (.rt v) h')=settle h v h':=(rfl)
theorem CU{h h':PH}{e:az}:fin h (.ok (.nx e) h')=settle h .non h':=(rfl)
theorem FC[Decidable c]:fin h (if c then a else b)=if c then fin h a else fin h b:=by split<;>rfl
theorem fE:settle h v h= .ok v h:=by unfold settle;split<;>simp
theorem dc(hv:v.flat=true):settle h v (h++g)= .ok v h:=by unfold settle;rw[hv,fc];simp
theorem dC(hv:v.flat=false):settle h v h'= .ok v h':=by unfold settle;rw[hv];rfl
theorem js(hv:v.flat=true)(e:h[i]?=TK o)(m:o.cF=o'.cF)(hu:o'.dH h.length=true):settle h v (h.set i o'++g)= .ok v (h.set i o'):=by
 unfold settle;have:bF h.length h (h.set i o'++g)=true:=by
  have h1:=da hu h (h++g) i o (fc _ h g) e m
  rwa[ZF _ _ (TR.mp e).1] at h1
 rw[hv,this];simp[Ww]
theorem dN{h:PH}{v:PV}{i:Nat}{o o':PO}:settle h v (h.set i o')= .ok v (h.set i o'):=by
 unfold settle;split
 . rw[<- UA (as:=h) (i:=i) (a:=o'),YI]
 . rfl
theorem aT:TU a=TU b↔a=b:=by
 refine⟨λe=>?_,λe=>by rw[e]⟩;rw[Y7,Y7] at e;have e1:a.toList.map Y8=b.toList.map Y8:=by
  have:=congrArg (λs:Str=>s.cps.toList) e;simpa using this
 have inj: ∀{l m:List Char},l.map Y8=m.map Y8->l=m:=by
  intro l
  induction l with
  | nil=>intro m h;cases m with | nil=>rfl | cons=>cases h
  | cons x r ih =>
   intro m h
   cases m with
   | nil=>cases h
   | cons y t =>
    simp only[List.cons.injEq,T9] at h
    have:=Char.toNat_inj.mp h.1
    rw[this,ih h.2]
 exact String.toList_inj.mp (inj e1)
section
variable{c:CF}{e e1:az}{h h1:PH}{a b d:ME}{t u:MT}{r:MA}{x y v:PV}{f g:PV->PV->PH->RV PV}{s s':MS}{i n:Nat}
def PZ(f:PV->PV->PH->RV PV)(b:ME) c e x h1:=(b c e h1).bind λy h2=>f x y h2
theorem Pa:aq f a b c e h=(a c e h).bind (PZ f b c e):=rfl
theorem LK:PZ f b c e x h1=(b c e h1).bind (f x):=rfl
theorem PR{f}:Eg f a c e h=(a c e h).bind f:=rfl
noncomputable def Jt(o:Option (Option PV))(h:PH):RV PV:=match o with
 | some (TK v)=> .ok v h
 | _=> .no
theorem vT:aa i c e h=Jt (e[i]?) h:=rfl
theorem GO:Jt (TK (TK v)) h= .ok v h:=rfl
theorem So:eC v c e h= .ok v h:=rfl
theorem IU:sN (.bl p) h= .ok p h:=rfl
noncomputable def zO(b:ME) c e x h1:=if x=true then b c e h1 else .ok (.bl false) h1
theorem Lp:ic a b c e h=((a c e h).bind sN).bind (zO b c e):=rfl
theorem Es:zO b c e true h=b c e h:=rfl
theorem Dm:zO b c e false h= .ok (.bl false) h:=rfl
theorem Dg[Decidable p]:zO b c e (decide p) h=if p then b c e h else .ok (.bl false) h:=by unfold zO;by_cases q:p<;>simp[q]
noncomputable def Pf(b:ME) c e x h1:=if x=true then .ok (.bl true) h1 else b c e h1
theorem Po:HH a b c e h=((a c e h).bind sN).bind (Pf b c e):=rfl
theorem K8:Pf b c e true h= .ok (.bl true) h:=rfl
theorem Kw:Pf b c e false h=b c e h:=rfl
theorem LA[Decidable p]:Pf b c e (decide p) h=if p then .ok (.bl true) h else b c e h:=by unfold Pf;by_cases q:p<;>simp[q]
noncomputable def Pj(x:Bool)(h1:PH):RV PV:= .ok (.bl (!x)) h1
theorem L8:G5 a c e h=((a c e h).bind sN).bind Pj:=rfl
theorem Ec:Pj p h= .ok (.bl (!p)) h:=rfl
noncomputable def M3(a b:ME) c e x h1:=if x=true then a c e h1 else b c e h1
theorem Ov:Na t a b c e h=(t c e h).bind (M3 a b c e):=rfl
theorem LL:M3 a b c e true h=a c e h:=rfl
theorem Lw:M3 a b c e false h=b c e h:=rfl
theorem Kq[Decidable p]:M3 a b c e (decide p) h=if p then a c e h else b c e h:=by unfold M3;by_cases q:p<;>simp[q]
theorem HR[Decidable p]:M3 a b c e (!decide p) h=if p then b c e h else a c e h:=by unfold M3;by_cases q:p<;>simp[q]
theorem HX:aX a c e h=(a c e h).bind sN:=rfl
noncomputable def oM(u:MT) c e x h1:=if x=true then u c e h1 else .ok false h1
theorem Ef:xS t u c e h=(t c e h).bind (oM u c e):=rfl
theorem Cm:oM u c e true h=u c e h:=rfl
theorem C4:oM u c e false h= .ok false h:=rfl
theorem CI[Decidable p]:oM u c e (decide p) h=if p then u c e h else .ok false h:=by unfold oM;by_cases q:p<;>simp[q]
theorem Ar[Decidable p]:oM u c e (!decide p) h=if p then .ok false h else u c e h:=by unfold oM;by_cases q:p<;>simp[q]
noncomputable def vc(u:MT) c e x h1:=if x=true then .ok true h1 else u c e h1
theorem Mn:C7 t u c e h=(t c e h).bind (vc u c e):=rfl
theorem Ei:vc u c e true h= .ok true h:=rfl
theorem FH:vc u c e false h=u c e h:=rfl
theorem FA[Decidable p]:vc u c e (decide p) h=if p then .ok true h else u c e h:=by unfold vc;by_cases q:p<;>simp[q]
theorem Fh[Decidable p]:vc u c e (!decide p) h=if p then u c e h else .ok true h:=by unfold vc;by_cases q:p<;>simp[q]
noncomputable def HJ(x:Bool)(h1:PH):RV Bool:= .ok (!x) h1
theorem Gu:mF t c e h=(t c e h).bind HJ:=rfl
theorem CG:HJ p h= .ok (!p) h:=rfl
theorem Fv:aV c e h= .ok true h:=rfl
theorem D8:af c e h= .ok [] h:=rfl
noncomputable def Me(x:PV)(xs:List PV)(h2:PH):RV (List PV):= .ok (x::xs) h2
def JV(r:MA) c e x h1:=(r c e h1).bind (Me x)
theorem C0:ab a r c e h=(a c e h).bind (JV r c e):=rfl
theorem yB:JV r c e x h=(r c e h).bind (Me x):=rfl
theorem yO:Me x xs h= .ok (x::xs) h:=rfl
theorem iF{r:RV α}(hn:n<=16777216):iT n r=r:=by exact if_pos hn
def NI(xs:List PV)(h:PH):RV PV:=iT xs.length (.ok (.tup xs) h)
theorem KS:bA r c e h=(r c e h).bind NI:=rfl
theorem EJ:NI xs h=iT xs.length (.ok (.tup xs) h):=(rfl)
def Nq(xs:List PV)(h:PH):RV PV:=iT xs.length (.ok (.ref h.length) (h++[.lst xs]))
theorem KA:ay r c e h=(r c e h).bind Nq:=rfl
theorem EC:Nq xs h=iT xs.length (.ok (.ref h.length) (h++[.lst xs])):=(rfl)
theorem Eo{f}:ag f r c e h=(r c e h).bind (c f):=rfl
theorem Se{f}:eB f r c e h=(r c e h).bind f:=rfl
def PJ(f:PV->List PV->PH->RV PV)(ty:PV->PH->Bool)(r:MA) c e x h1:=if ty x h1=true then(r c e h1).bind (f x) else .no
theorem OU{f}:eM f ty a r c e h=(a c e h).bind (PJ f ty r c e):=rfl
theorem nP{f:PV->List PV->PH->RV PV}{ty:PV->PH->Bool}(ht:ty x h=true):PJ f ty r c e x h=(r c e h).bind (f x):=if_pos ht
def xN(g:PV->PV->PH->RV PV)(d:ME) c e y k h3:=if k=true then(d c e h3).bind (g y) else .ok (.bl false) h3
def KI(f g:PV->PV->PH->RV PV) d c e x y h2:=((f x y h2).bind sN).bind (xN g d c e y)
def NW(f g:PV->PV->PH->RV PV)(b d:ME) c e x h1:=(b c e h1).bind (KI f g d c e x)
theorem Nm:kE f g a b d c e h=(a c e h).bind (NW f g b d c e):=rfl
theorem Kg:NW f g b d c e x h=(b c e h).bind (KI f g d c e x):=rfl
theorem Js:KI f g d c e x y h=((f x y h).bind sN).bind (xN g d c e y):=rfl
theorem GS:xN g d c e y true h=(d c e h).bind (g y):=rfl
theorem ET:xN g d c e y false h= .ok (.bl false) h:=rfl
theorem F6[Decidable p]:xN g d c e y (decide p) h=if p then(d c e h).bind (g y) else .ok (.bl false) h:=by unfold xN;by_cases q:p<;>simp[q]
noncomputable def yn(s:MS) c (f:Fl) (h1:PH):=match f with
 | .nx e1=>s c e1 h1
 | f=> .ok f h1
theorem Av:ah s s' c e h=(s c e h).bind (yn s' c):=rfl
theorem xf:yn s c (.nx e) h=s c e h:=(rfl)
theorem Gh:yn s c (.rt v) h= .ok (.rt v) h:=rfl
theorem EM:yn s c (.bk e) h= .ok (.bk e) h:=rfl
theorem EH:yn s c (.ct e) h= .ok (.ct e) h:=rfl
theorem Pg:c8 c e h= .ok (.nx e) h:=rfl
noncomputable def SD(e:az)(_:PV)(h1:PH):RV Fl:= .ok (.nx e) h1
theorem wu:aC a c e h=(a c e h).bind (SD e):=rfl
theorem Ax:SD e x h= .ok (.nx e) h:=rfl
noncomputable def O2(v:PV)(h1:PH):RV Fl:= .ok (.rt v) h1
theorem Li:aQ a c e h=(a c e h).bind O2:=rfl
theorem E8:O2 v h= .ok (.rt v) h:=rfl
noncomputable def vE(s s':MS) c e x h1:=if x=true then s c e h1 else s' c e h1
theorem JQ:cX t s s' c e h=(t c e h).bind (vE s s' c e):=rfl
theorem GD:vE s s' c e true h=s c e h:=rfl
theorem GN:vE s s' c e false h=s' c e h:=rfl
theorem FY[Decidable p]:vE s s' c e (decide p) h=if p then s c e h else s' c e h:=by unfold vE;by_cases q:p<;>simp[q]
theorem Fn[Decidable p]:vE s s' c e (!decide p) h=if p then s' c e h else s c e h:=by unfold vE;by_cases q:p<;>simp[q]
noncomputable def JX(e1:az)(h2:PH):RV Fl:= .ok (.nx e1) h2
def Ji(g:MG) e v h1:=(g v e h1).bind JX
theorem MX{g}:ax a g c e h=(a c e h).bind (Ji g e):=rfl
theorem GP:Ji (gN i) e v h= .ok (.nx (e.set i (TK v))) h:=rfl
theorem EL:Ji (gT n gs) e v h=(gT n gs v e h).bind JX:=rfl
theorem Iv:JX e h= .ok (.nx e) h:=rfl
theorem PK:gN i v e h= .ok (e.set i (TK v)) h:=rfl
theorem PD(hn:xs.length=n):gT n gs (.tup xs) e h=gs xs e h:=if_pos hn
theorem Ja:gT 2 gs (.tup [x1,x2]) e h=gs [x1,x2] e h:=rfl
theorem L9:gT 3 gs (.tup [x1,x2,x3]) e h=gs [x1,x2,x3] e h:=rfl
theorem Lr:gT 4 gs (.tup [x1,x2,x3,x4]) e h=gs [x1,x2,x3,x4] e h:=rfl
theorem Lc:gT 5 gs (.tup [x1,x2,x3,x4,x5]) e h=gs [x1,x2,x3,x4,x5] e h:=rfl
theorem Ij:bE [] e h= .ok e h:=rfl
theorem Io{g r t}:ao g r (v::t) e h=(g v e h).bind (r t):=rfl
def C2(f:PV->PV->PV->PH->RV Unit)(e:az)(v x y:PV)(h3:PH):RV Fl:=(f x y v h3).bind λ_ h4=> .ok (.nx e) h4
def B6(f:PV->PV->PV->PH->RV Unit)(i:ME) c e v x h2:=(i c e h2).bind (C2 f e v x)
def Hy(f:PV->PV->PV->PH->RV Unit)(o i:ME) c e v h1:=(o c e h1).bind (B6 f i c e v)
theorem MJ{f i}:rO f o i a c e h=(a c e h).bind (Hy f o i c e):=rfl
theorem El{f i}:Hy f o i c e v h=(o c e h).bind (B6 f i c e v):=rfl
theorem Dv{f i}:B6 f i c e v x h=(i c e h).bind (C2 f e v x):=rfl
noncomputable def S8(e:az)(_:Unit)(h:PH):RV Fl:= .ok (.nx e) h
theorem Ez{f}:C2 f e v x y h=(f x y v h).bind (S8 e):=rfl
theorem IC{u}:S8 e u h= .ok (.nx e) h:=rfl
def bc(g:MG)(s:MS) c x e h:=(g x e h).bind (s c)
def fork g s c e it h1:=bh it (bc g s c) it.items e h1
theorem ee{i g}:d6 i g s c e h=(i c e h).bind (fork g s c e):=(rfl)
theorem c7{g}:fork g s c e it h=bh it (bc g s c) it.items e h:=(rfl)
theorem gb{g}:bc g s c x e h=(g x e h).bind (s c):=(rfl)
theorem Lb:ef a c e h=(a c e h).bind mC:=(rfl)
theorem IP:mC (.tup xs) h= .ok ⟨TL,xs⟩ h:=(rfl)
theorem HP:mC (.ktup xs) h= .ok ⟨TL,xs⟩ h:=(rfl)
def QH(n:Nat)(h:PH)(o:Option PO):RV pE:=match o with
 | some (.lst xs)=> .ok ⟨TK n,xs⟩ h
 | some (.jW xs)=> .ok ⟨TK n,xs⟩ h
 | _=> .no
theorem Kv:mC (.ref n) h=QH n h (h[n]?):=by
 have e:mC (.ref n) h=(match bp h n with | some xs=> .ok ⟨TK n,xs⟩ h | none=> .no):=rfl;rw[e];unfold bp QH;generalize h[n]?=oo;cases oo with
 | none=>rfl
 | some o=>cases o<;>rfl
theorem K4:QH n h (TK (.lst xs))= .ok ⟨TK n,xs⟩ h:=(rfl)
theorem La:QH n h (TK (.jW xs))= .ok ⟨TK n,xs⟩ h:=(rfl)
def Sr(vs:List PV)(h1:PH):RV pE:=match vs with
 | [.int j]=>if -(2 ^ 62)<=j/\j < 2 ^ 62 then .ok ⟨TL,aP 0 j.toNat⟩ h1 else .no
 | _=> .no
theorem KU:eO r c e h=(r c e h).bind Sr:=by
 rfl
theorem DW(hj: -4611686018427387904<=j/\j < 4611686018427387904):Sr [.int j] h= .ok ⟨TL,aP 0 j.toNat⟩ h:=by
 exact if_pos (by omega)
def Gv(vs:List PV)(h1:PH):RV pE:=match vs with
 | [.int i,.int j]=>if (-(2 ^ 62)<=i∧i < 2 ^ 62)∧ -(2 ^ 62)<=j∧j < 2 ^ 62 then .ok ⟨TL,aP i (j - i).toNat⟩ h1 else .no
 | _=> .no
theorem M5 : jP r c e h = (r c e h).bind Gv := by
  unfold jP;generalize r c e h = z;cases z with
  | ok a b =>
    rw [iQ, iQ]
    unfold Gv
    split
    . rfl
    . rename_i hx
      first
      | rfl
      | (split
         . exact absurd rfl (hx _ _)
         . rfl)
  | ex a b d => rfl
  | no => rfl
theorem Gg{i j:Int}(hi: -4611686018427387904<=i∧i < 4611686018427387904)(hj: -4611686018427387904<=j∧j < 4611686018427387904):Gv [.int i,.int j] h= .ok ⟨TL,aP i (j - i).toNat⟩ h:=by
 unfold Gv;exact if_pos (by omega)
noncomputable def Q7(x y:PV)(h2:PH):RV pE:=match x.seq?,y.seq? with
 | some xs,TK ys=> .ok ⟨TL,(xs.zip ys).map λp=> .tup [p.1,p.2]⟩ h2
 | _,_=> .no
def S7(b:ME) c e x h1:=(b c e h1).bind (Q7 x)
theorem J1:Dz a b c e h=(a c e h).bind (S7 b c e):=(rfl)
theorem Dx:S7 b c e x h=(b c e h).bind (Q7 x):=(rfl)
theorem Cd:Q7 (.ktup xs) (.tup ys) h= .ok ⟨TL,(xs.zip ys).map λp=> .tup [p.1,p.2]⟩ h:=(rfl)
theorem BQ:Q7 (.tup xs) (.tup ys) h= .ok ⟨TL,(xs.zip ys).map λp=> .tup [p.1,p.2]⟩ h:=(rfl)
def RD it (step:PV->az->PH->RV Fl) (xs:List PV) (f:Fl) (h1:PH):=match f with
 | .nx e1=>bh it step xs e1 h1
 | .ct e1=>bh it step xs e1 h1
 | .bk e1=> .ok (.nx e1) h1
 | .rt v=> .ok (.rt v) h1
theorem dS{step}:bh ⟨TL,xs⟩ step [] e h= .ok (.nx e) h:=(rfl)
theorem bW{step}:bh ⟨TL,xs⟩ step (y::ys) e h=(step y e h).bind (RD ⟨TL,xs⟩ step ys):=(rfl)
theorem nc{step}(hf:it.iw h=true):bh it step [] e h= .ok (.nx e) h:=by rw[bh,if_pos hf]
theorem iS{step}(hf:it.iw h=true):bh it step (y::ys) e h=(step y e h).bind (RD it step ys):=by rw[bh,if_pos hf];rfl
theorem aU{step}:RD it step xs (.nx e) h=bh it step xs e h:=(rfl)
noncomputable def J2(ys:List PV)(h2:PH):RV PV:= .ok (.ref h2.length) (h2++[.lst ys])
def Qj k g t a c e it h1:=(jD it (bL k g t a c e) it.items [] h1).bind J2
theorem O0{i g}:jh k i g t a c e h=(i c e h).bind (Qj k g t a c e):=(rfl)
theorem Ml{g}:Qj k g t a c e it h=(jD it (bL k g t a c e) it.items [] h).bind J2:=(rfl)
theorem I0:J2 ys h= .ok (.ref h.length) (h++[.lst ys]):=(rfl)
noncomputable def BP(y:PV)(h4:PH):RV (Option PV):= .ok (TK y) h4
def tS(a:ME) c e2 b h3:=if b=true then(a c e2 h3).bind BP else .ok TL h3
def Qp(t:MT) a c e2 h2:=(t c e2 h2).bind (tS a c e2)
theorem PY{g}:bL k g t a c e x h=(g x (e++Ue k TL) h).bind (Qp t a c):=(rfl)
theorem Jy:Qp t a c e h=(t c e h).bind (tS a c e):=(rfl)
theorem Ej:tS a c e true h=(a c e h).bind BP:=(rfl)
theorem Gi:tS a c e false h= .ok TL h:=(rfl)
theorem Fs[Decidable p]:tS a c e (decide p) h=if p then(a c e h).bind BP else .ok TL h:=by unfold tS;by_cases q:p<;>simp[q]
theorem FF[Decidable p]:tS a c e (!decide p) h=if p then .ok TL h else(a c e h).bind BP:=by unfold tS;by_cases q:p<;>simp[q]
theorem Iu:BP y h= .ok (TK y) h:=(rfl)
theorem cO{α :Type}{it:pE}(hf:it.iw h=true){step:PV->PH->RV (Option PV)}{f: α ->Option PV}{g: α ->PV}: ∀(l:List α)(ys:List PV),(∀ x∈l,step (g x) h= .ok (f x) h)->l.length+ys.length<=16777216->jD it step (l.map g) ys h= .ok (ys++l.filterMap f) h
 | [],ys,_,_=>by rw[UE,jD,if_pos hf];simp
 | x::xs,ys,hs,hl=>by
  have hl':ys.length < Ub:=by rw[Uc] at hl;show ys.length < 16777216;omega
  rw[T9,jD,if_pos ⟨hf,hl'⟩,hs x Ug];cases q:f x with
  | none=>exact(cO hf xs ys (λy m=>hs y (T7 _ m)) (by grind)).trans (by rw[List.filterMap_cons_none q])
  | some y=>exact(cO hf xs (ys++[y]) (λz m=>hs z (T7 _ m)) (by rw[Uc] at hl;simp;omega)).trans (by rw[List.filterMap_cons_some q];simp)
end
section
variable{h:PH}{i j:Int}{a b:Str}{x y z w u v:PV}{r xs ys:List PV}{p q:Bool}{n m:Nat}
theorem DL:sQ (.int i) (.int j) h= .ok (.int (i - j)) h:=(rfl)
theorem GW:aA (.int i) (.int j) h= .ok (.int (i+j)) h:=(rfl)
theorem iP(hl:a.length+b.length<=16777216):aA (.str a) (.str b) h= .ok (.str (a++b)) h:=iF hl
theorem gE(e1:h[n]?=TK (.lst xs))(e2:h[m]?=TK (.lst ys))(hl:xs.length+ys.length<=16777216):aA (.ref n) (.ref m) h= .ok (.ref h.length) (h++[.lst (xs++ys)]):=by
 unfold aA;simp only[e1,e2];exact iF (by simpa using hl)
theorem GG(hj:0 < j):g9 (.int i) (.int j) h= .ok (.int (i % j)) h:=by unfold g9 p2;simp[hj,Dc,iQ]
theorem FV(hj:0<=j/\j<=1000000/\i.natAbs < 18446744073709551616):DF (.int i) (.int j) h= .ok (.int (i ^ j.toNat)) h:=by
 unfold DF p2;simp only;rw[if_pos (by omega)];rfl
theorem mU(hj: -18446744073709551616 < j/\j < 18446744073709551616):oP (.int i) (.int j) h= .ok (.int (i*j)) h:=if_pos (.inr (by omega))
theorem MH:FT (.int i) (.int j) h= .ok (.bl (decide (i < j))) h:=(rfl)
theorem Jd:He (.int i) (.int j) h= .ok (.bl (decide (i<=j))) h:=(rfl)
theorem Mx:An (.int i) (.int j) h= .ok (.bl (decide (j < i))) h:=(rfl)
theorem LX:Q6 (.int i) (.int j) h= .ok (.bl (decide (j<=i))) h:=(rfl)
theorem Gz:CS (.int i) h= .ok (.int (-i)) h:=(rfl)
theorem DH:qj (.str a) (.str b) h= .ok (.bl (decide (a=b))) h:=by simp[qj,alike,lP]
theorem Fp:qj (.int i) (.int j) h= .ok (.bl (decide (i=j))) h:=by simp[qj,alike,lP]
theorem Fy:qj (.bl p) (.bl q) h= .ok (.bl (decide (p=q))) h:=by simp[qj,alike,lP]
theorem Fx:pD (.bl p) (.bl q) h= .ok (.bl (!decide (p=q))) h:=by simp[pD,alike,lP,jS]
theorem Sg:bu (.tup (x::r)) (.int 0) h= .ok x h:=by
 simp only[bu,gA,vQ];rw[if_pos (by decide),if_pos (by simp_all)];rfl
theorem Rv:bu (.tup (x::y::r)) (.int 1) h= .ok y h:=by
 simp only[bu,gA,vQ];rw[if_pos (by decide),if_pos (by simp only[Uc];omega)];rfl
theorem Rz(e:gA xs i=TK v):bu (.tup xs) (.int i) h= .ok v h:=by simp only[bu,e]
theorem gK{xs}(e:i=(n)){v: α}(q:xs[n]?=TK v):gA xs i=TK v:=by
 have hl:=(TR.mp q).1;subst e;unfold gA vQ;rw[if_pos (by omega),if_pos (by omega)];simpa using q
def JM(y:PV)(h:PH)(o:Option PO):RV PV:=match o with
 | some (.dct kvs)=>(match ka y with
  | some k=>(match bt kvs k with | some v=> .ok v h | none=> .no)
  | none=> .no)
 | some (.lst xs)=>(match y with
  | .int i=>(match gA xs i with | some v=> .ok v h | none=> .no)
  | _=> .no)
 | some (.jW xs)=>(match y with
  | .int i=>(match gA xs i with | some v=> .ok v h | none=> .no)
  | _=> .no)
 | _=> .no
theorem va:bu (.ref n) y h=JM y h (h[n]?):=by
 rfl
noncomputable def NC(h:PH)(o:Option PV):RV PV:=match o with
 | some v=> .ok v h
 | none=> .no
theorem AI:JM (.str a) h (TK (.dct kvs))=NC h (bt kvs (.inr a)):=(rfl)
theorem x6:JM (.int i) h (TK (.lst xs))=NC h (gA xs i):=(rfl)
theorem Rl:JM (.int i) h (TK (.jW xs))=NC h (gA xs i):=(rfl)
theorem mP:NC h (TK v)= .ok v h:=(rfl)
theorem sC:bt ((k,v)::kvs) k=TK v:=by simp[bt]
theorem sO(ne:k'≠k):bt ((k',v)::kvs) k=bt kvs k:=by simp[bt,ne]
def E4(n:Nat)(y v:PV)(h:PH)(o:Option PO):RV Unit:=match o with
 | some (.dct kvs)=>(match ka y with
  | some k=>if kvs.length < Ub then .ok () (h.set n (.dct (iL kvs k v))) else .no
  | none=> .no)
 | some (.lst xs)=>(match y with
  | .int i=>(match vQ xs.length i with | some j=> .ok () (h.set n (.lst (xs.set j v))) | none=> .no)
  | _=> .no)
 | _=> .no
theorem N9:pO (.ref n) y v h=E4 n y v h (h[n]?):=by
 rfl
theorem Cw(hl:kvs.length < 16777216):E4 n (.str a) v h (TK (.dct kvs))= .ok () (h.set n (.dct (iL kvs (.inr a) v))):=if_pos hl
def SY(n:Nat)(v:PV)(h:PH)(o:Option PO):RV PV:=match o with
 | some (.lst xs)=>if xs.length < Ub then .ok .non (h.set n (.lst (xs++[v]))) else .no
 | _=> .no
theorem vA:au (.ref n) [v] h=SY n v h (h[n]?):=by
 rfl
theorem uh(hl:xs.length < 16777216):SY n v h (TK (.lst xs))= .ok .non (h.set n (.lst (xs++[v]))):=if_pos hl
theorem len_T:cN [.tup xs] h= .ok (.int xs.length) h:=(rfl)
theorem Pp:mG false .non h= .ok (.bl true) h:=(rfl)
theorem Ot:mG false (.int i) h= .ok (.bl false) h:=by simp[mG]
theorem Pm:mG false (.str a) h= .ok (.bl false) h:=by simp[mG]
theorem NH:mG false (.bl p) h= .ok (.bl false) h:=by simp[mG]
section
variable{c:CF}{e:az}{d k1 k2:ME}{rr:MA}{kvs:List (Key × PV)}{ff:PV->List PV->PH->RV PV}
def RX(f:PV->List PV->PH->RV PV)(r:MA) c e n h (o:Option PO):=match o with
 | some (.lst _)=>(r c e h).bind (f (.ref n))
 | _=> .no
theorem Nj:PJ ff aJ rr c e (.ref n) h=RX ff rr c e n h (h[n]?):=by
 unfold PJ RX aJ;cases q:h[n]? with
 | none=>simp[q]
 | some o=>cases o<;>simp[q]
theorem Mf:RX ff rr c e n h (TK (.lst xs))=(rr c e h).bind (ff (.ref n)):=(rfl)
theorem BK:nJ c e h= .ok (.ref h.length) (h++[.dct []]):=(rfl)
end
noncomputable def Ri(h:PH)(o:Option PO):RV PV:=match o with
 | some (.lst xs)=> .ok (.tup xs) h
 | some (.jW xs)=> .ok (.tup xs) h
 | _=> .no
theorem Ds:bZ [.ref n] h=Ri h (h[n]?):=by
 unfold Ri;cases q:h[n]? with
 | none=>simp[bZ,bp,q]
 | some o=>cases o<;>simp[bZ,bp,q]
theorem AJ:Ri h (TK (.lst xs))= .ok (.tup xs) h:=(rfl)
noncomputable def Q5(h:PH)(o:Option PO):RV PV:=match o with
 | some (.lst xs)=> .ok (.int xs.length) h
 | some (.jW xs)=> .ok (.int xs.length) h
 | some (.dct kvs)=> .ok (.int kvs.length) h
 | _=> .no
theorem O9:cN [.ref n] h=Q5 h (h[n]?):=by
 unfold Q5;cases q:h[n]? with
 | none=>simp[cN,itemsOf,bp,q]
 | some o=>cases o<;>simp[cN,itemsOf,bp,q]
theorem IH:Q5 h (TK (.lst xs))= .ok (.int xs.length) h:=(rfl)
theorem KY:Q5 h (TK (.jW xs))= .ok (.int xs.length) h:=(rfl)
noncomputable def RS(h:PH)(o:Option PO):RV PV:=match o with
 | some (.lst xs)=> .ok (.ref h.length) (h++[.lst xs])
 | some (.jW xs)=> .ok (.ref h.length) (h++[.lst xs])
 | _=> .no
theorem HQ:j9 [.ref n] h=RS h (h[n]?):=by
 unfold RS;cases q:h[n]? with
 | none=>simp[j9,itemsOf,bp,q]
 | some o=>cases o<;>simp[j9,itemsOf,bp,q]
theorem EN:RS h (TK (.lst xs))= .ok (.ref h.length) (h++[.lst xs]):=(rfl)
theorem jI{a:Str}: ∀{ss:List Str},((ss.map PV.str).any λz=>M9 z (.str a))=decide (a∈ss)
 | []=>by simp
 | x::t=>by
  rw[T9,Wa,jI];by_cases e:x=a
  . subst e;simp[show M9 (.str x) (.str x)=(x == x) from rfl]
  . have e': ¬ a=x:=λz=>e z.symm;simp[show M9 (.str x) (.str a)=(x == a) from rfl,e,e']
theorem all_strs: ∀{ss:List Str},((ss.map PV.str).all fG)=true
 | []=>rfl
 | x::t=>by rw[T9,WJ,all_strs];rfl
theorem xI{ss:List Str}:hI (.str a) (.tup (ss.map PV.str)) h= .ok (.bl (decide (a∈ss))) h:=by
 have:isIn (.str a) (.tup (ss.map PV.str)) h=TK (decide (a∈ss)):=by
  unfold isIn;simp only[itemsOf,all_strs,fG,WK,if_true,jI]
 unfold hI;rw[this]
theorem in_K{ss:List Str}:hI (.str a) (.ktup (ss.map PV.str)) h= .ok (.bl (decide (a∈ss))) h:=by
 have:isIn (.str a) (.ktup (ss.map PV.str)) h=TK (decide (a∈ss)):=by
  unfold isIn;simp only[itemsOf,all_strs,fG,WK,if_true,jI]
 unfold hI;rw[this]
section
variable{c:CF}{e:az}{d:ME}{kvs:List (Key × PV)}
def SO(kvs:List (Key × PV))(x:PV)(h:PH):RV PV:=match ka x with
 | some key=>(match bt kvs key with
  | some v=> .ok v h
  | none=> .no)
 | none=> .no
theorem Nk:nR kvs d c e h=(d c e h).bind (SO kvs):=(rfl)
theorem Lf:SO kvs (.str a) h=NC h (bt kvs (.inr a)):=(rfl)
def Ry(neg:Bool)(kvs:List (Key × PV))(x:PV)(h:PH):RV PV:=match ka x with
 | some key=> .ok (.bl (if neg then !(bt kvs key).isSome else(bt kvs key).isSome)) h
 | none=> .no
theorem Oh{neg:Bool}:rn neg kvs d c e h=(d c e h).bind (Ry neg kvs):=(rfl)
theorem Lo:Ry false kvs (.str a) h= .ok (.bl (bt kvs (.inr a)).isSome) h:=(rfl)
theorem Kn:Ry true kvs (.str a) h= .ok (.bl (!(bt kvs (.inr a)).isSome)) h:=(rfl)
end
section
variable{c:CF}{e:az}{d:ME}{l uu:MO}
def Ma(uu:MO) c e x (lo:Option Int) h:=(uu c e h).bind (HC x lo)
def O1(l uu:MO) c e x h:=(l c e h).bind (Ma uu c e x)
theorem Oo:oZ d l uu c e h=(d c e h).bind (O1 l uu c e):=(rfl)
theorem JH:O1 l uu c e x h=(l c e h).bind (Ma uu c e x):=(rfl)
theorem Mz{lo}:Ma uu c e x lo h=(uu c e h).bind (HC x lo):=(rfl)
theorem Qr:cG c e h= .ok TL h:=(rfl)
noncomputable def Sz(v:PV)(h1:PH):RV (Option Int):=match v with
 | .int i=> .ok (TK i) h1
 | _=> .no
theorem NA:cH d c e h=(d c e h).bind Sz:=(rfl)
theorem K2:Sz (.int i) h= .ok (TK i) h:=(rfl)
theorem R9{lo}:HC (.tup xs) lo hi h= .ok (.tup (dX xs lo hi)) h:=(rfl)
def Rp(lo hi:Option Int)(h:PH)(o:Option PO):RV PV:=match o with
 | some (.lst xs)=> .ok (.ref h.length) (h++[.lst (dX xs lo hi)])
 | some (.jW xs)=> .ok (.ref h.length) (h++[.lst (dX xs lo hi)])
 | _=> .no
theorem Sf{lo}:HC (.ref n) lo hi h=Rp lo hi h (h[n]?):=by
 unfold Rp;cases q:h[n]? with
 | none=>simp[HC,bp,q]
 | some o=>cases o<;>simp[HC,bp,q]
theorem OX{lo}:Rp lo hi h (TK (.lst xs))= .ok (.ref h.length) (h++[.lst (dX xs lo hi)]):=(rfl)
theorem eV{lo}(h0:0<=lo):dX xs (TK lo) TL=xs.drop lo.toNat:=by
 have e:lo=((lo.toNat)):=by omega
 unfold dX;rw[e,HT.mS,HT.ke];simp only[VL];rcases YZ lo.toNat xs.length with z | z
 . grind
 . rw[Xu z,VA z];simp
theorem we(h0:0<=hi):dX xs TL (TK hi)=xs.take hi.toNat:=by
 have e:hi=((hi.toNat)):=by omega
 unfold dX;rw[e,HT.mS,HT.ke];simp only[VL,ZA,aay];rcases YZ hi.toNat xs.length with z | z
 . rw[Zh z]
 . rw[Xu z,Wz (T6 _),Wz z]
end
variable{o o':PO}{g:PH}{k:Nat}
theorem aM:(h++(o::g))[h.length]?=TK o:=by rw[Uo (T6 _)];simp
theorem aZ:(h++g)[h.length+k]?=g[k]?:=by rw[Uo (by omega)];congr 1;omega
theorem aR(hn:n < h.length):(h++g)[n]?=h[n]?:=Uq hn
theorem kM:(h++g).set h.length o=h++g.set 0 o:=by simp
theorem bB(e:h[n]?=TK o):n < h.length:=(TR.mp e).1
end
section
variable{h:PH}{i j:Int}{a b:Str}{x y z w u v:PV}{r xs ys:List PV}{p q:Bool}{n m:Nat}
theorem Kt:cm [.tup xs,.ty "tuple"] h= .ok (.bl true) h:=(rfl)
theorem Jc:cm [.tup xs,.ty "list"] h= .ok (.bl false) h:=(rfl)
theorem J9:cm [.tup xs,.tup [.ty "tuple",.ty "list"]] h= .ok (.bl true) h:=(rfl)
theorem Kx:cm [.int i,.ty "tuple"] h= .ok (.bl false) h:=(rfl)
theorem BI:cm [.int i,.ty "bool"] h= .ok (.bl false) h:=(rfl)
theorem AD:cm [.int i,.ty "int"] h= .ok (.bl true) h:=(rfl)
theorem zX:cm [.int i,.tup [.ty "tuple",.ty "list"]] h= .ok (.bl false) h:=(rfl)
theorem K5:cm [.str a,.ty "tuple"] h= .ok (.bl false) h:=(rfl)
theorem CM:cm [.str a,.ty "bool"] h= .ok (.bl false) h:=(rfl)
theorem zE:cm [.str a,.ty "int"] h= .ok (.bl false) h:=(rfl)
theorem oh:cm [.str a,.ty "str"] h= .ok (.bl true) h:=(rfl)
theorem Cv:cm [.str a,.tup [.ty "tuple",.ty "list"]] h= .ok (.bl false) h:=(rfl)
theorem Cy:cm [.bl p,.ty "bool"] h= .ok (.bl true) h:=(rfl)
theorem CD:cm [.bl p,.tup [.ty "tuple",.ty "list"]] h= .ok (.bl false) h:=(rfl)
theorem Cf:cm [.non,.ty "tuple"] h= .ok (.bl false) h:=(rfl)
theorem Cu:cm [.non,.tup [.ty "tuple",.ty "list"]] h= .ok (.bl false) h:=(rfl)
theorem rD: ∀ bs ,uR (bs.map PV.bl)=TK bs
 | []=>rfl
 | b::r=>by rw[T9,uR,rD r];rfl
theorem xx{bs:List Bool}(e:h[n]?=TK (.lst (bs.map PV.bl))):uU [.ref n] h= .ok (.bl (bs.all id)) h:=by
 simp[uU,qJ,bp,e,rD]
theorem N1{bs:List Bool}(e:h[n]?=TK (.lst (bs.map PV.bl))):xG [.ref n] h= .ok (.bl (bs.any id)) h:=by
 simp[xG,qJ,bp,e,rD]
end
section
variable{c:CF}{e:az}{h h1:PH}{a b:ME}{r:MP}{x y v:PV}{kvs:List (Key × PV)}{key:Key}{s:Str}{i:Int}{n:Nat}
def Ql(n:Nat)(kvs:List (Key × PV))(h1:PH):RV PV:=if h1[n]?=TK (.dct [])/\kvs.length<=15 then .ok (.ref n) (h1.set n (.dct (dy [] kvs))) else .no
noncomputable def RO(key:Key)(v:PV)(kvs:List (Key × PV))(h3:PH):RV (List (Key × PV)):= .ok ((key,v)::kvs) h3
def Ru key (r:MP) c e v h2:=(r c e h2).bind (RO key v)
def Sv(b:ME)(r:MP)(c:CF)(e:az)(x:PV)(h1:PH):RV (List (Key × PV)):=match ka x with
 | some key=>(b c e h1).bind (Ru key r c e)
 | none=> .no
theorem xA:oX r c e h=(r c e (h++[.dct []])).bind (Ql h.length):=(rfl)
theorem zD:ue c e h= .ok [] h:=(rfl)
theorem BD:bQ a b r c e h=(a c e h).bind (Sv b r c e):=(rfl)
theorem xb:Sv b r c e (.str s) h=(b c e h).bind (Ru (.inr s) r c e):=(rfl)
theorem BY:Ru key r c e v h=(r c e h).bind (RO key v):=(rfl)
theorem BZ:RO key v kvs h= .ok ((key,v)::kvs) h:=(rfl)
theorem Cg(h1:h[n]?=TK (.dct []))(h2:kvs.length<=15):Ql n kvs h= .ok (.ref n) (h.set n (.dct (dy [] kvs))):=if_pos ⟨h1,h2⟩
theorem xB(h2:kvs.length<=15):Ql h.length kvs (h++[.dct []])= .ok (.ref h.length) (h++[.dct (dy [] kvs)]):=by
 rw[Cg aM h2,kM];rfl
end
section
variable{X:Cx}{pg:Tb}{k:Nat}
def EB:V->List V->Hp->VK->Prop:=λx vs H Q=> ∃ l b kvs more,x= .ref l/\vs=[.ref b]/\l≠b/\H l=TK (.dK kvs)/\H b=TK (.dK more)/\kvs.length+more.length<=Ub/\Q .non (upd H l (.dK (fV kvs more)))
theorem yY:vz X "dict.update" EB:=by
 intro pins s σ H x vs v us Q I rx rv h;obtain⟨l,b,kvs,more,rfl,rfl,hlb,hH,hB,hz,q⟩:=h;cases rx;obtain⟨u,rfl,ru⟩:=vals1 rv;cases(show u=Uv b from ru);obtain⟨z1,n1,vs1,r1,d1⟩:=tO I.bx hH;obtain⟨z2,n2,vs2,r2,d2⟩:=tO I.bx hB;refine call_meetsIn PySem.F.slot_dict_update d1.typeIs PySem.F.entry_dict_update (PySem.F.args_dict_update_2 _ _) (meets_dict_update (bz X.prog X.w) l b hlb n2) ⟨vs1,vs2,d1,d2,by rw[<- r1.length,<- r2.length];exact hz,λh' d' _ sb=>?_⟩;have ln:=fW more kvs;exact⟨.non,_,ni I (by rw[hH];exact trivial) sb (let ⟨q,_,_,hq,_⟩:=d';⟨q,hq⟩) (vD (by omega) n1 (KV.merge r2 r1) d'),rfl,q⟩
def jk:PV->PH->Bool:=λx h=>match x with
 | .ref n=>(match h[n]? with
  | some (.dct _)=>true
  | _=>false)
 | _=>false
theorem xP{ρ :List Uj}{h:PH}{H:Hp}{x:PV}{v:V}(s:cB X.K ρ h H)(r:rel X.K ρ H x v)(e:jk x h=true):K3 X.K "dict" v H:=by
 cases x with
 | ref n =>
  simp only[jk] at e
  split at e
  . rename_i kvs en;rw[rel] at r;obtain⟨a,ea,rfl⟩:=r;obtain⟨kws,e1,_⟩:=s.ob n _ a en ea;exact .inr (.inr (.inl ⟨rfl,.inl ⟨kws,e1⟩⟩))
  . nomatch e
 | _=>nomatch e
def fD:PV->List PV->PH->RV PV:=λx vs h=>match x,vs with
 | .ref n,[.ref m]=>(match h[n]?,h[m]? with
  | some (.dct kvs),TK (.dct more)=>if n≠m/\kvs.length+more.length<=Ub then .ok .non (h.set n (.dct (dy kvs more))) else .no
  | _,_=> .no)
 | _,_=> .no
theorem Aa:cC X pg k-> ∃ r,vz X "dict.update" r/\Hu X.K "dict" r fD jk:=λA=>⟨_,yY,fun ρ h H x x' s r e=>xP s r e,fun ρ h H x x' xs us Q v h' s rx rs q P=>by
 unfold fD at q;split at q
 . rename_i n m;split at q
   . rename_i kvs more en em;split at q
     . rename_i hl;cases q;rw[rel] at rx;obtain⟨a,ea,rfl⟩:=rx;obtain⟨kws,e1,e2⟩:=s.ob n _ a en ea;obtain⟨u,rfl,r⟩:=a8 rs;rw[rel] at r;obtain⟨b,eb,rfl⟩:=r;obtain⟨mws,d1,d2⟩:=s.ob m _ b em eb;have hab:a≠b:=λe=>hl.1 (s.nd n m a _ _ en em rfl rfl ea (e ▸ eb));have g:Gr ρ H ρ (upd H a (.dK (fV kws mws))):=Gr.write (.inr ⟨_,e1⟩);exact⟨a,b,kws,mws,rfl,rfl,hab,e1,d1,by rw[<- RK.len e2,<- RK.len d2];exact hl.2,P _ ρ _ g (s.write en ea rfl rfl ⟨_,aI,RK.merge (Paired.dg g d2) (Paired.dg g e2)⟩) (by rw[rel])⟩
     . nomatch q
   . nomatch q
 . nomatch q⟩
end
section
variable{h:PH}{n m:Nat}{kvs more:List (Key × PV)}
theorem RI(e1:h[n]?=TK (.dct kvs))(e2:h[m]?=TK (.dct more))(hn:n≠m)(hl:kvs.length+more.length<=1000):fD (.ref n) [.ref m] h= .ok .non (h.set n (.dct (dy kvs more))):=by
 have z:kvs.length+more.length<=Ub:=UQ hl (by decide);simp only[fD,e1,e2,if_pos (YG hn z)]
theorem Oi(e1:h[n]?=TK (.dct kvs)):jk (.ref n) h=true:=by simp only[jk,e1]
end
section
variable{α :Type}{p:List α ->Prop}
theorem TB(h:p []): ∀ us:List α,us.length=0->p us:=λus e=>by simp_all
theorem Rc{n:Nat}(h: ∀ a: α,∀ us:List α,us.length=n->p (a::us)): ∀ us:List α,us.length=n+1->p us:=λus e=>by
 cases us with
 | nil=>simp at e
 | cons a r=>exact h a r (by simpa using e)
theorem R3(h: ∀ a,p [a]): ∀ us:List α,us.length=1->p us:=Rc λa=>TB (h a)
theorem RN(h: ∀ a b,p [a,b]): ∀ us:List α,us.length=2->p us:=Rc λa=>R3 (h a)
theorem RC(h: ∀ a b c,p [a,b,c]): ∀ us:List α,us.length=3->p us:=Rc λa=>RN (h a)
theorem S4(h: ∀ a b c d,p [a,b,c,d]): ∀ us:List α,us.length=4->p us:=Rc λa=>RC (h a)
end
section
variable{X:Cx}{pg:Tb}{k:Nat}{e iter:UR}{ma:ME}{mt:MT}{mI:MI}{scope:XY}{ifs:List UR}{pos spos py vp wp tp:Pos}{y v w:Str}{i j m n:Nat}
theorem GC.of{K}(h:ZO n i=true):GC K n (fg i) (gN i):=Dp (Nat.le_of_ble_eq_true h)
theorem Kj(hi:JI X pg k (.Name v vp) iter mI)
  (hb: ∀ cl C s₀ H₀ ex pn,(cC X pg k->QG (eL X [v] scope cl C s₀ H₀ ex pn) (.Name v vp) (fg m))/\JF (eL X [v] scope cl C s₀ H₀ ex pn) pg k ifs mt/\JE (eL X [v] scope cl C s₀ H₀ ex pn) pg k e ma)
  (hm:ZO X.N.length m=true:=by rfl) (hkind:scope.kind= .function:=by rfl) (hlc:hE scope.names X.env.scope.names X.N [v]=true:=by rfl) (hs: ∀ x,UX iter X.env x=pure x:=by intro _;rfl) :
  JE X pg k (.ListComp e [⟨.Name v vp,iter,ifs,0⟩] scope pos) (jh 1 mI (gN m) mt ma):=tf [v] hkind hlc hi hb (GC.of hm) hs
theorem Ia(hi:JI X pg k (.Tuple [.Name v vp,.Name w wp] j tp) iter mI)
  (hb: ∀ cl C s₀ H₀ ex pn,(cC X pg k->QG (eL X [v,w] scope cl C s₀ H₀ ex pn) (.Tuple [.Name v vp,.Name w wp] j tp) (vq X.K 2 (lM (fg m) (lM (fg n) xQ))))/\JF (eL X [v,w] scope cl C s₀ H₀ ex pn) pg k ifs mt/\JE (eL X [v,w] scope cl C s₀ H₀ ex pn) pg k e ma)
  (hm:ZO X.N.length m=true:=by rfl) (hn:ZO X.N.length n=true:=by rfl) (hkind:scope.kind= .function:=by rfl) (hlc:hE scope.names X.env.scope.names X.N [v,w]=true:=by rfl) (hs: ∀ x,UX iter X.env x=pure x:=by intro _;rfl) :
  JE X pg k (.ListComp e [⟨.Tuple [.Name v vp,.Name w wp] j tp,iter,ifs,0⟩] scope pos) (jh 2 mI (gT 2 (ao (gN m) (ao (gN n) bE))) mt ma):=tf [v,w] hkind hlc hi hb (CN (kc (GC.of hm) (kc (GC.of hn) wy))) hs
theorem LM(hN:X.N.Nodup)(hi:JI X pg k (.Name v vp) iter mI)
  (hb: ∀ cl C s₀ H₀ ex pn,(cC X pg k->QG (eL X [v] scope cl C s₀ H₀ ex pn) (.Name v vp) (fg m))/\JF (eL X [v] scope cl C s₀ H₀ ex pn) pg k ifs mt/\JE (eL X [v] scope cl C s₀ H₀ ex pn) pg k e ma)
  (hm:ZO X.N.length m=true:=by rfl) (hiy:X.N[i]?=TK y:=by rfl) (hy:Loc X.env.scope y:=by first | exact Zw rfl | exact X7 rfl) (hkind:scope.kind= .function:=by rfl) (hlc:hE scope.names X.env.scope.names X.N [v]=true:=by rfl)
  (hsw:Wg (.ListComp e [⟨.Name v vp,iter,ifs,0⟩] scope pos) (TK (.Name y py)) spos.line X.env=pure true:=by rfl) (hs: ∀ x,UX iter X.env x=pure x:=by intro _;rfl)
  (hf:X.fn y=true\/X.env.scope.names.lookup y=TK .local:=by first | exact .inl rfl | exact .inr rfl | assumption) :
  JS X pg k (.Assign [.Name y py] (.ListComp e [⟨.Name v vp,iter,ifs,0⟩] scope pos) spos) (ax (jh 1 mI (gN m) mt ma) (gN i)):=tR [v] i hkind hlc hN hiy hy hi hb (GC.of hm) hsw hs hf
theorem MC(hN:X.N.Nodup)(hi:JI X pg k (.Tuple [.Name v vp,.Name w wp] j tp) iter mI)
  (hb: ∀ cl C s₀ H₀ ex pn,(cC X pg k->QG (eL X [v,w] scope cl C s₀ H₀ ex pn) (.Tuple [.Name v vp,.Name w wp] j tp) (vq X.K 2 (lM (fg m) (lM (fg n) xQ))))/\JF (eL X [v,w] scope cl C s₀ H₀ ex pn) pg k ifs mt/\JE (eL X [v,w] scope cl C s₀ H₀ ex pn) pg k e ma)
  (hm:ZO X.N.length m=true:=by rfl) (hn:ZO X.N.length n=true:=by rfl) (hiy:X.N[i]?=TK y:=by rfl) (hy:Loc X.env.scope y:=by first | exact Zw rfl | exact X7 rfl) (hkind:scope.kind= .function:=by rfl) (hlc:hE scope.names X.env.scope.names X.N [v,w]=true:=by rfl)
  (hsw:Wg (.ListComp e [⟨.Tuple [.Name v vp,.Name w wp] j tp,iter,ifs,0⟩] scope pos) (TK (.Name y py)) spos.line X.env=pure true:=by rfl) (hs: ∀ x,UX iter X.env x=pure x:=by intro _;rfl)
  (hf:X.fn y=true\/X.env.scope.names.lookup y=TK .local:=by first | exact .inl rfl | exact .inr rfl | assumption) :
  JS X pg k (.Assign [.Name y py] (.ListComp e [⟨.Tuple [.Name v vp,.Name w wp] j tp,iter,ifs,0⟩] scope pos) spos) (ax (jh 2 mI (gT 2 (ao (gN m) (ao (gN n) bE))) mt ma) (gN i)):=tR [v,w] i hkind hlc hN hiy hy hi hb (CN (kc (GC.of hm) (kc (GC.of hn) wy))) hsw hs hf
end
end P3
end
section
open PySem PySem.W PyProof.Rows
namespace L2
open PySem PySem.Spec PyProof.Rows
theorem sF: ∀{us ss},StrsAre us ss-> ∀ i hu(hs:i < ss.length),aaz a us[i]=(ss[i] == a)
 | _,_,.nil,i,hu,_=>absurd hu (Nat.not_lt_zero i)
 | _,_,.cons x t h,0,_,_=>rfl
 | _,_,.cons x t h,i+1,hu,hs=>sF h i (Y9 hu) (Y9 hs)
theorem KH{ss:List Str}(h:a∈ss):ss.idxOf a < ss.length:=List.idxOf_lt_length_iff.mpr h
end L2
namespace P3
open PySem PySem.Spec PyProof.Rows L2
section
variable{X:Cx}{pg:Tb}{k j n:Nat}{es:List UR}{t:De}{pos:Pos}{vars:List Str}{scope:XY}{cl:List (Str × Uj)}{C:Uj}{s0:Ua}{H0:Hp}{ex:List Uj}{pn:List (Uj × Obj)}
theorem DN(A:cC X pg k)(h:LB (eL X vars scope cl C s0 H0 ex pn) es t)(hn:(Vs es (eL X vars scope cl C s0 H0 ex pn).env).length=n:=by rfl)(hst:(Vs es (eL X vars scope cl C s0 H0 ex pn).env).findIdx? (·.1)=TL:=by rfl):QG (eL X vars scope cl C s0 H0 ex pn) (.Tuple es j pos) (vq X.K n t):=zV A.calm h hn hst
end
end P3
end
section
open PySem PySem.W PyProof.Rows
namespace L2
open PySem PySem.Spec PyProof.Rows
open PySem.AutoSeq1 (wpAny_loadPart')
theorem Gj f (J:List Nat-> β ->Ua->Prop) Q
  (step: ∀ i r b u,J (i::r) b u->Ur M A (f i b) (λz u'=>match z with
   | .yield b'=>J r b' u'
   | .done b'=>Q b' u') E u) (stop: ∀ b u,J [] b u->Q b u) (rg:Std.Legacy.Range) (b) (h:J (List.range' rg.start rg.size rg.step) b s):Ur M A (forIn rg b f) Q E s:=by
 rw[ZG];exact wpAny_forIn_list f J Q step stop _ b h
theorem xK l ak n di sl x (e:TY->Bool) (he: ∀ y,y∈ak->MeetsSeq.EqGives y x (e y)) j hj (h1:e ak[j]=true) (h0: ∀(m:Nat) hm,m < j->e ak[m]=false) :
  Meets (Xl.«tuple.index» ⟨[.ref l,x],[]⟩) (λ_ R s=>s.heap.get? l=TK { cls:= .type "tuple",dict:=di,data:= .seq ak n,slots:=sl}/\R (.ok (.ret (.int (j) s.toks))) { s with toks:=s.toks+1}) :=
 .of_wp λprog w A R u hu=>by
  obtain⟨hp,gg,dd,tk,os⟩:=u;obtain⟨hl,hr⟩:=hu
  wp_walk using wpAny_loadPart' hl,Gj _ (λrest b u'=>b=(TL,())/\u'=(⟨hp,gg,dd,tk,os⟩)/\ ∃ m,rest=List.range' m (ak.size - m)/\m<=j) _
  case step =>
   rintro i r b u' ⟨rfl,rfl,m,em,mj⟩
   have hm:m < ak.size:=by omega
   rw[show ak.size - m=(ak.size - (m+1))+1 by omega,List.range'_succ] at em
   obtain⟨rfl,rfl⟩:=W0 em
   have ei:=Array.getElem?_eq_getElem hm
   rw[ei]
   refine TM (he ak[i] (Array.getElem_mem hm) prog w _ _ _ _ ?_)
   by_cases c:i=j
   . subst c;rw[h1]
     wp_walk
     exact⟨_,rfl,hr⟩
   . rw[h0 i hm (by omega)]
     wp_walk
     exact⟨rfl,rfl,i+1,rfl,by omega⟩
  case stop =>
   rintro b u' ⟨_,_,m,em,mj⟩
   have:=congrArg Xz em
   rw[Vc,List.length_range'] at this
   omega
  case h=>exact⟨rfl,rfl,0,by simp_all,Vp _⟩
section
variable{X:Cx}
theorem places{a:Str}{t:Tok}{ak:List TY}{ss:List Str}(sa:StrsAre ak ss)(ln:ak.length=ss.length)(ha:a∈ss) :
  ∃ hj:ss.idxOf a < ak.toArray.size,aaz a ak.toArray[ss.idxOf a]=true/\ ∀(m:Nat)(hm:m < ak.toArray.size),m < ss.idxOf a->aaz a ak.toArray[m]=false:=by
 have hj:=KH ha;refine⟨by rw[Ux,ln];exact hj,?_,λm hm hlt=>?_⟩
 . show aaz a (ak[ss.idxOf a]'(by rw[ln];exact hj))=true;rw[sF sa _ _ hj,List.getElem_idxOf hj];exact beq_self_eq_true a
 . have hm':m < ss.length:=by simp_all
   show aaz a (ak[m]'(by omega))=false;have nf:=List.not_of_lt_findIdx (p:=(· == a)) (xs:=ss) (i:=m) hlt
   rw[sF sa _ _ hm'];simpa using nf
def GU(K:TQ):V->List V->Hp->VK->Prop:=λx vs H Q=> ∃(l:Uj)(ss:List Str)(a:Str),x= .ref l/\vs=[.str a]/\fK K H l (ss.map V.str)/\a∈ss/\Q (.int (ss.idxOf a)) H
theorem yD:QL X "tuple.index" (GU X.K):=by
 intro pins s σ H x vs v us Q I rx rv h;obtain⟨l,ss,a,rfl,rfl,hH,ha,q⟩:=h;cases rx;obtain⟨u,rfl,t,rfl⟩:=rv.one;obtain⟨ak,r,⟨o,e,ec,n,ed⟩,z⟩:=I.tuple hH;have sa:=vY r;have ln:ak.length=ss.length:=by rw[<- r.length,TV]
 obtain⟨hj,h1,h0⟩:=places (t:=t) sa ln ha;obtain⟨oc,od,oa,os⟩:=o;cases ec;cases ed;refine VS F.slot_tuple_index ⟨_,e,rfl⟩ F.entry_tuple_index (F.args_tuple_index_2 _ _)
  (xK l ak.toArray n od os (.str a t) (aaz a) (λy hy=>eq_isStrOf a t sa y (by simp_all)) (ss.idxOf a) hj h1 h0) ⟨e,?_⟩
 exact⟨.int (ss.idxOf a),H,I.tok _,⟨_,rfl⟩,q⟩
variable{o e:UR}{to:TE}{t:TA}{name:Str}{apos cpos:Pos}{id:String}{r:V->List V->Hp->VK->Prop}
end
end L2
namespace P3
open PySem PySem.Spec PyProof.Rows L2
section
variable{X:Cx}{pg:Tb}{k:Nat}{d e:UR}{md:ME}{mr:MA}{apos cpos:Pos}
def vZ(x:PV)(vs:List PV)(h:PH):RV PV:=match x,vs with
 | .ktup xs,[.str a]=>(match gh xs with
  | some ss=>if a∈ss then .ok (.int (ss.idxOf a)) h else .no
  | none=> .no)
 | _,_=> .no
def Rb(v:PV)(mr:MA):ME:=λc e h=>(mr c e h).bind λvs h2=>vZ v vs h2
theorem xT{p}(hc:pg.con x=TK v)(hg:Gl X x)(ha:JA X pg k [e] mr)(hd:(x == ("__debug__"))=false:=by decide)(hbase:VQ (.Name x p) "index" X.env (Vl (.Name x p) X.env)=Vl (.Name x p) X.env:=by rfl)(hline:(apos.endLine == cpos.line)=true:=by rfl)(hs:noStar e=true:=by rfl) :
  JE X pg k (.Call (.Attribute (.Name x p) "index" apos) [e] [] cpos) (Rb v mr):=⟨λA=>by
 obtain⟨u,v',e1,e2,cn,e3⟩:=A.con x v hc;obtain⟨_,q1,s1⟩:=ha.h A;refine⟨_,Hf PySem.F.plainAttrs_tuple PySem.F.slot_tuple_index PySem.F.type_tuple_index yD (xp hg e1 e2 hd) q1 hbase hline hs,fun ρ h H e σ Q w h' z r q P=>?_⟩;obtain⟨xs,h2,e2',q⟩:=bind_eq.mp q;unfold vZ at q;split at q
 . rename_i ys a _;split at q
   . rename_i ss es;split at q
     . rename_i hm;cases q;have r0:=e3 ρ H;obtain⟨pa,vs,rfl,_,_⟩:=r0;obtain⟨o,o1,o2,o3⟩:=cn pa rfl;refine⟨.inr (.inl ⟨rfl,o,o1,o2,o3⟩),?_⟩;refine s1 ρ h H e σ _ _ _ z r e2' λus ρ2 H2 g2 z2 r2=>?_;obtain⟨p',vs',ep,sq,rv⟩:=rel.seq (x:= .ktup ys) rfl (e3 ρ2 H2);cases ep;obtain⟨u',rfl,ru⟩:=a8 r2;subst ru;rw[tj es,ja] at rv;subst rv;exact⟨_,ss,a,rfl,rfl,sq,hm,P.gr g2 _ ρ2 H2 (.refl _ _) z2 (by rw[rel])⟩
     . nomatch q
   . nomatch q
 . nomatch q⟩
end
section
variable{c:CF}{e:az}{h:PH}{d:ME}{r:MA}{x v:PV}{ss:List Str}{a:Str}{n:Nat}
theorem NY:Rb v r c e h=(r c e h).bind (vZ v):=(rfl)
theorem Ap(ha:a∈ss):vZ (.ktup (ss.map PV.str)) [.str a] h= .ok (.int (ss.idxOf a)) h:=by
 unfold vZ;simp only[qL,if_pos ha]
end
section
variable{X:Cx}{pg:Tb}{k:Nat}
def Nt(d:Xn):=d.showable=true/\d.hasDict=false/\d.depth<=64/\d.shown.length<=Ub
instance (d:Xn):Decidable (Nt d):=by unfold Nt;infer_instance
end
section
variable{P:UP}{w:U6}{K:TQ}{mg:Str->Option TY}{pg:Tb}
theorem cA.on{st}(a:At K mg (TU f) st)(S:cE N ps (aj st))(hl:N.length=ps.length+n)
  (hb: ∀ kV doc pm an cdv ct us,us.length=ps.length->Wc (U2 (TU f) (TU f) (bD st) (aG st) (aj st) .none kV doc pm an cdv ct) ⟨us,[]⟩=pure (ps.zip us))
  (h:N.Nodup-> ∀ base fa cdv A outer s H E k,tV (gj mV P w K mg base N (TU f) (aj st) fa cdv A outer s H E).lT pg k (aG st) b):cA P w K mg pg f ⟨ps,n,b⟩ st N :=
 ⟨a,S,hl,hb,h S.nd⟩
end
def eI(i:Int):=eC (.int i)
def eS(x:Str):=eC (.str x)
def eX(i:Nat)(j:Int):=aq bu (aa i) (eI j)
def mQ a b:=aX (aq qj a b)
def a1 a:=ab a af
def a2 a b:=ab a (a1 b)
def a3 a b d:=ab a (a2 b d)
section
variable{a b d:ME}{c:CF}{e:az}{h:PH}{i:Nat}{j:Int}{s:Str}{x y z v:PV}
theorem Oj:eI j c e h= .ok (.int j) h:=rfl
theorem NN:eS s c e h= .ok (.str s) h:=rfl
def xk(o:Option (Option PV)) j h:=(Jt o h).bind λx h1=>bu x (.int j) h1
theorem Pn:eX i j c e h=xk (e[i]?) j h:=rfl
theorem Ph:xk (TK (TK v)) j h=bu v (.int j) h:=rfl
def Q9 x y h:=(qj x y h).bind sN
def S9(b:ME) c e x h:=(b c e h).bind (Q9 x)
theorem QB:mQ a b c e h=(a c e h).bind (S9 b c e):=by
 show((a c e h).bind _).bind sN=_;cases a c e h with
 | ok x h1 =>
  show((b c e h1).bind _).bind sN=(b c e h1).bind (Q9 x)
  cases b c e h1<;>rfl
 | _=>rfl
theorem Jv:S9 b c e x h=(b c e h).bind (Q9 x):=rfl
theorem Jl:Q9 x y h=(qj x y h).bind sN:=rfl
noncomputable def Ta(x:PV)(h:PH):RV (List PV):= .ok [x] h
theorem OW:a1 a c e h=(a c e h).bind Ta:=rfl
theorem Ko:Ta x h= .ok [x] h:=rfl
noncomputable def Q4(x y:PV)(h:PH):RV (List PV):= .ok [x,y] h
def S3(b:ME) c e x h:=(b c e h).bind (Q4 x)
theorem Ha:a2 a b c e h=(a c e h).bind (S3 b c e):=by
 show(a c e h).bind _=_;cases a c e h with
 | ok x h1 =>
  show((b c e h1).bind _).bind _=(b c e h1).bind (Q4 x)
  cases b c e h1<;>rfl
 | _=>rfl
theorem Mw:S3 b c e x h=(b c e h).bind (Q4 x):=rfl
theorem J4:Q4 x y h= .ok [x,y] h:=rfl
noncomputable def QQ(x y z:PV)(h:PH):RV (List PV):= .ok [x,y,z] h
def QR(d:ME) c e x y h:=(d c e h).bind (QQ x y)
def SR(b d:ME) c e x h:=(b c e h).bind (QR d c e x)
theorem Qc:a3 a b d c e h=(a c e h).bind (SR b d c e):=by
 show(a c e h).bind (JV (a2 b d) c e)=_;cases a c e h with
 | ok x h1 =>
  show(a2 b d c e h1).bind _=(b c e h1).bind (QR d c e x)
  rw[Ha]
  cases b c e h1 with
  | ok y h2 =>
   show((d c e h2).bind _).bind _=(d c e h2).bind (QQ x y)
   cases d c e h2<;>rfl
  | _=>rfl
 | _=>rfl
theorem Iq:SR b d c e x h=(b c e h).bind (QR d c e x):=rfl
theorem KQ:QR d c e x y h=(d c e h).bind (QQ x y):=rfl
theorem Jr:QQ x y z h= .ok [x,y,z] h:=rfl
end
abbrev xR(h:Vx)(z TI TO T:Uj)(b:Bool):Prop :=
 h.get? z=TK { cls:= .type "zip",dict:=TL,data:= .fields #[.int (T:Int) 0,.bool b,.bool false,.ref TI,.ref TO],slots:= #[]}
section
variable{prog:UP}{w:U6}{A:Vk}{E:TY->Ua->Prop}{s:Ua}
theorem A5{M:Model}{a:Uj}{Q:Option Obj->Ua->Prop}(h:Q (s.heap.get? a) s):Ur M A (loadIfAlive a) Q E s:=fun Γ p _=>(Sem.wp_loadIfAlive ..).mpr h
theorem qu{z TI TO T:Uj}{b:Bool}{oT:Obj}{Q:Bool->Ua->Prop}(hz:xR s.heap z TI TO T b)(hT:s.heap.get? T=TK oT)
  (q: ∀ h',xR h' z TI TO T true->Xg z s.heap h'->Q false { s with heap:=h'}):Ur (Uu prog w) A (Vj (.ref z)) Q E s:=by
 refine TM (m:=XN (.ref z) 0) (U4 hz rfl (x:= .int (T) 0) rfl ?_);refine TM (A5 ?_);rw[VL,hT];refine TM (U4 hz rfl (x:= .bool b) rfl ?_);cases b with
 | false =>
  refine QJ (by decide) (TM (V1 hz (by simp) λh1 z1 b1=>Ud ?_))
  exact q h1 z1 b1
 | true=>exact Nc (by decide) (Ud (q s.heap hz ⟨rfl,λ_ _=>rfl⟩))
theorem yh{z TI TO i1 i2 l1 l2 T:Uj}{b:Bool}{oT:Obj}{k:Nat}{xs ys:Array TY}{x y:TY}{Q:TY->Ua->Prop}(D:WQ z TI TO i1 i2 l1 l2)(hz:xR s.heap z TI TO T b)(hT:s.heap.get? T=TK oT)(hTI:W9 s.heap TI (.ref i1) (.ref i2))
  (h1:s.heap.IsListIter i1 l1 k) (h2:s.heap.IsListIter i2 l2 k) (hl1:s.heap.IsList l1 xs) (hl2:s.heap.IsList l2 ys) (hx:xs[k]?=TK x) (hy:ys[k]?=TK y)
  (q: ∀ h',xR h' z TI TO T true->h'.IsListIter i1 l1 (k+1)->h'.IsListIter i2 l2 (k+1)->W9 h' s.heap.objs.size x y->(∀ c o,c≠z->c≠i1->c≠i2->s.heap.get? c=TK o->h'.get? c=TK o)->Q (.ref s.heap.objs.size) { s with heap:=h'}):Ur (Uu prog w) A (Xl.«zip.__next__» ⟨[.ref z],[]⟩) (λr u=> ∃ v,r= .done (.ret v)/\Q v u) E s:=by
 refine TM (m:=XN (.ref z) 2) (U4 hz rfl (x:= .bool false) rfl ?_);refine TM (m:=XN (.ref z) 3) (U4 hz rfl (x:= .ref TI) rfl (TM (VU hTI rfl ?_)));refine TM (m:=Vj (.ref z)) (qu hz hT λu1 z1 b1=>Nc (by decide) ?_);refine TM ?_;rw[<- aai,VM];refine TM (TM (VP (TM (m:=UM (.ref i1)) (Xo (h1.extBut b1.extBut D.i1z) (hl1.extBut b1.extBut D.l1z) hx λu2 p1 b2=>Ud ?_))));refine Ud ?_;dsimp only;rw[VM];refine TM (TM (VP (TM (m:=UM (.ref i2)) (Xo ((h2.extBut b1.extBut D.i2z).extBut b2.extBut D.i12.symm) ((hl2.extBut b1.extBut D.l2z).extBut b2.extBut D.l2i1) hy λu3 p2 b3=>Ud ?_))));refine Ud ?_;refine Ud ?_;refine TM (wpAny_newTuple ?_ (by show 2<=Ub;decide));have sz:=b3.1.trans (b2.1.trans b1.1);have up: ∀ c o,u3.get? c=TK o->(u3.push { cls:= .type "tuple",data:= .seq #[x,y]}).get? c=TK o:=λc o e=>T1 _ e;refine Ud ⟨_,rfl,show Q (.ref u3.objs.size) _ from ?_⟩;have T8:W9 (u3.push { cls:= .type "tuple",data:= .seq #[x,y]}) u3.objs.size x y:=Up _ rfl;rw[sz] at T8;rw[sz];exact q _ (up _ _ (b3.extBut _ _ D.i2z.symm (b2.extBut _ _ D.i1z.symm z1))) ((p1.extBut b3.extBut D.i12).at λo e=>up _ o e) (p2.at λo e=>up _ o e) T8 λc o n1 n2 n3 e=>up c o (b3.extBut _ _ n3 (b2.extBut _ _ n2 (b1.extBut _ _ n1 e)))
theorem Bs{z TI TO i1 i2 l1 l2 T:Uj}{b:Bool}{oT:Obj}{k:Nat}{xs ys:Array TY}{Q:PySem.Fin->Ua->Prop}(hh:A.handled=TL)(D:WQ z TI TO i1 i2 l1 l2)(hz:xR s.heap z TI TO T b)(hT:s.heap.get? T=TK oT)(hTI:W9 s.heap TI (.ref i1) (.ref i2))
  (h1:s.heap.IsListIter i1 l1 k) (h2:s.heap.IsListIter i2 l2 k) (hl1:s.heap.IsList l1 xs) (hl2:s.heap.IsList l2 ys) (he:xs[k]?=TL\/ys[k]?=TL)
  (q: ∀ h' e,(∀ c o,c≠z->c≠i1->c≠i2->s.heap.get? c=TK o->h'.get? c=TK o)->(∃ o,h'.get? e=TK o/\o.cls= .type "StopIteration")->E (.ref e) { s with heap:=h'}):Ur (Uu prog w) A (Xl.«zip.__next__» ⟨[.ref z],[]⟩) Q E s:=by
 refine TM (m:=XN (.ref z) 2) (U4 hz rfl (x:= .bool false) rfl ?_);refine TM (m:=XN (.ref z) 3) (U4 hz rfl (x:= .ref TI) rfl (TM (VU hTI rfl ?_)));refine TM (m:=Vj (.ref z)) (qu hz hT λu1 z1 b1=>Nc (by decide) ?_);refine TM ?_;rw[<- aai,VM]
 match hx:xs[k]? with
 | none =>
  refine TM (TM (VP (TM (m:=UM (.ref i1)) (Zn hh (h1.extBut b1.extBut D.i1z) (hl1.extBut b1.extBut D.l1z) hx λu2 e b2 g=>?_))))
  exact q u2 e (λc o n1 n2 _ y=>b2 _ _ n2 (b1.extBut _ _ n1 y)) g
 | some x =>
  have hy:=he.resolve_left (by simp_all)
  refine TM (TM (VP (TM (m:=UM (.ref i1)) (Xo (h1.extBut b1.extBut D.i1z) (hl1.extBut b1.extBut D.l1z) hx λu2 p1 b2=>Ud ?_))))
  refine Ud ?_
  dsimp only
  rw[VM]
  refine TM (TM (VP (TM (m:=UM (.ref i2)) (Zn hh ((h2.extBut b1.extBut D.i2z).extBut b2.extBut D.i12.symm) ((hl2.extBut b1.extBut D.l2z).extBut b2.extBut D.l2i1) hy λu3 e b3 g=>?_))))
  exact q u3 e (λc o n1 n2 n3 y=>b3 _ _ n3 (b2.extBut _ _ n2 (b1.extBut _ _ n1 y))) g
structure nI(h:Vx)(z TI TO i1 i2 l1 l2:Uj)(k:Nat)(xs ys:Array TY):Prop where
 st:(∃ a b,ZZ h z TI TO .none/\W9 h TO a b)\/ ∃ T b o,xR h z TI TO T b/\h.get? T=TK o/\T≠z/\T≠i1/\T≠i2/\T≠TO
 ak:W9 h TI (.ref i1) (.ref i2)
 one:h.IsListIter i1 l1 k
 two:h.IsListIter i2 l2 k
 l1:h.IsList l1 xs
 l2:h.IsList l2 ys
theorem nI.ty{TI TO l1 l2}(Z:nI s.heap z TI TO i1 i2 l1 l2 k xs ys):s.TypeIs (.ref z) "zip" :=by
 rcases Z.st with⟨a,b,e,_⟩ | ⟨T,b,o,e,_⟩
 . exact⟨_,e,rfl⟩
 . exact⟨_,e,rfl⟩
theorem yk{z TI TO i1 i2 l1 l2:Uj}{k:Nat}{xs ys:Array TY}{x y:TY}{Q:Option TY->Ua->Prop}(D:WQ z TI TO i1 i2 l1 l2)(Z:nI s.heap z TI TO i1 i2 l1 l2 k xs ys)(hx:xs[k]?=TK x)(hy:ys[k]?=TK y)
  (q: ∀ h',nI h' z TI TO i1 i2 l1 l2 (k+1) xs ys->W9 h' s.heap.objs.size x y->(∀ c o,c≠z->c≠TO->c≠i1->c≠i2->s.heap.get? c=TK o->h'.get? c=TK o)->Q (TK (.ref s.heap.objs.size)) { s with heap:=h'}):Ur (Uu prog w) A (aaB (.ref z)) Q E s:=by
 have ty:=Z.ty;obtain⟨st,hTI,h1,h2,hl1,hl2⟩:=Z;have lt: ∀{a:Uj}{v:Obj},s.heap.get? a=TK v->s.heap.objs.size≠a:=λy=>VR (Uk y);have n1:s.heap.objs.size≠i1:=by obtain⟨_,e,_⟩:=h1;exact lt e
 have n2:s.heap.objs.size≠i2:=by obtain⟨_,e,_⟩:=h2;exact lt e
 rcases st with⟨a,b,hz,hTO⟩ | ⟨T,b,o,hz,hT,t1,t2,t3,t4⟩
 . refine wpAny_pyNext_zip_item D hz hTI hTO h1 h2 hl1 hl2 hx hy λh' a1 a2 a3 a4 a5 a6 hk=>q h' ⟨.inr ⟨_,false,_,a1,a5,lt hz,n1,n2,lt hTO⟩,hk _ _ D.TIz D.TITO D.TIi1 D.TIi2 hTI,a3,a4,hl1.at λo e=>hk _ o D.l1z D.l1TO D.l1i1 D.l1i2 e,hl2.at λo e=>hk _ o D.l2z D.l2TO D.l2i1 D.l2i2 e⟩ a5 hk
 . exact TM (Yv (Ve (name:=TU "__next__") ty Vq (V0 Vq ty WA (yh D hz hT hTI h1 h2 hl1 hl2 hx hy λh' a1 a3 a4 a5 hk=>Ud
    (q h' ⟨.inr ⟨_,true,_,a1,hk _ _ t1 t2 t3 hT,t1,t2,t3,t4⟩,hk _ _ D.TIz D.TIi1 D.TIi2 hTI,a3,a4,hl1.at λo e=>hk _ o D.l1z D.l1i1 D.l1i2 e,hl2.at λo e=>hk _ o D.l2z D.l2i1 D.l2i2 e⟩ a5 λc o n1 _ n3 n4 e=>hk c o n1 n3 n4 e)) (Wu (.ref z)))))
theorem uI{z TI TO i1 i2 l1 l2:Uj}{k:Nat}{xs ys:Array TY}{Q:Option TY->Ua->Prop}(hh:A.handled=TL)(D:WQ z TI TO i1 i2 l1 l2)(Z:nI s.heap z TI TO i1 i2 l1 l2 k xs ys)(he:xs[k]?=TL\/ys[k]?=TL)
  (q: ∀ h',(∀ c o,c≠z->c≠TO->c≠i1->c≠i2->s.heap.get? c=TK o->h'.get? c=TK o)->Q TL { s with heap:=h'}):Ur (Uu prog w) A (aaB (.ref z)) Q E s:=by
 have ty:=Z.ty;obtain⟨st,hTI,h1,h2,hl1,hl2⟩:=Z;rcases st with⟨a,b,hz,hTO⟩ | ⟨T,b,o,hz,hT,t1,t2,t3,t4⟩
 . exact wpAny_pyNext_zip_end hh D hz hTI hTO h1 h2 hl1 hl2 he q
 . exact TM (Yv (Ve (name:=TU "__next__") ty Vq (V0 Vq ty WA (Bs (A:=A.in1) hh D hz hT hTI h1 h2 hl1 hl2 he λh' e a1 g =>
    by obtain⟨o,g1,g2⟩:=g;exact TM (wpAny_isInstance (T:= "StopIteration") (b:=true) ⟨o,g1,g2⟩ isSubtype_stop (Ud (q h' λc o n1 _ n3 n4 e=>a1 c o n1 n3 n4 e)))) (Wu (.ref z)))))
theorem nI.kept{TI TO l1 l2}(Z:nI h z TI TO i1 i2 l1 l2 k xs ys)(ns:S≠z/\S≠TI/\S≠TO/\S≠i1/\S≠i2/\S≠l1/\S≠l2)(kp: ∀ b o,b≠S->h.get? b=TK o->h'.get? b=TK o)
  (al: ∀ T o,h.get? T=TK o-> ∃ o',h'.get? T=TK o'):nI h' z TI TO i1 i2 l1 l2 k xs ys:=by
 obtain⟨n1,n2,n3,n4,n5,n6,n7⟩:=ns;obtain⟨st,hTI,h1,h2,hl1,hl2⟩:=Z;refine⟨?_,kp _ _ n2.symm hTI,h1.at λo e=>kp _ o n4.symm e,h2.at λo e=>kp _ o n5.symm e,hl1.at λo e=>kp _ o n6.symm e,hl2.at λo e=>kp _ o n7.symm e⟩;rcases st with⟨a,b,hz,hTO⟩ | ⟨T,b,o,hz,hT,t⟩
 . exact .inl ⟨a,b,kp _ _ n1.symm hz,kp _ _ n3.symm hTO⟩
 . obtain⟨o',e⟩:=al T o hT;exact .inr ⟨T,b,o',kp _ _ n1.symm hz,e,t⟩
end
def zL:List V->List V->List V->Hp->(List V->Hp->Prop)->Prop
 | x::xs,y::ys,acc,H,Q=> ∀ p,H p=TL->zL xs ys (acc++[.ref p]) (upd H p (.tup [x,y])) Q
 | [],_,acc,H,Q=>Q acc H
 | _::_,[],acc,H,Q=>Q acc H
theorem NP(h:gx X pins H b)(ne:b≠p):gx X pins (upd H p o) b:=⟨by rw[av ne];exact h.1,h.2⟩
theorem p6: ∀{xs us x u},Vals xs us->RelV x u->Vals (xs++[x]) (us++[u])
 | _,_,_,_,.nil,r=> .cons r .nil
 | _,_,_,_,.cons a t,r=> .cons a (p6 t r)
theorem Hg{A:Vk}(h:Ur M A.in1 b Q E s):Ur M (A.under (.builtin "list.extend.loop" args)) b Q E s:=by
 rw[ZH F.plain_extend_loop args];exact h
theorem zY{X:Cx}{pins:List (Uj × Obj)}{σ :L2.St}{z TI TO i1 i2 l1 l2 S:Uj}{xs ys:List V}{us ws:List TY}{res:TY}{R:aaE->Ua->Prop}{Qf:List V->Hp->Prop}{A:Vk}(hh:A.in1.handled=TL)(D:WQ z TI TO i1 i2 l1 l2)
  (nS:S≠z/\S≠TI/\S≠TO/\S≠i1/\S≠i2/\S≠l1/\S≠l2) (ru:Vals xs us) (rw':Vals ys ws) (hz:us.length<=Ub)
  (hR: ∀(s':Ua)(H':Hp)(acc':List V)(ia:Array TY)(c':Nat),Inv X pins σ H' s'->gx X pins H' S->s'.heap.get? S=TK { cls:= .type "list",dict:=TL,data:= .seq ia c',slots:= #[]}->Vals acc' ia.toList->acc'.length<=Ub->Qf acc' H'->R (.ok (.ret res)) s') :
  ∀(n k:Nat)(s:Ua)(H:Hp)(acc:List V)(ia:Array TY)(c:Nat),us.length - k=n->acc.length=k->k<=us.length->Inv X pins σ H s->TO < s.heap.objs.size->(∀ b∈[z,TO,i1,i2,S],gx X pins H b)->nI s.heap z TI TO i1 i2 l1 l2 k us.toArray ws.toArray ->
   s.heap.get? S=TK { cls:= .type "list",dict:=TL,data:= .seq ia c,slots:= #[]}->Vals acc ia.toList->zL (xs.drop k) (ys.drop k) acc H Qf ->
   WN (Uu X.prog X.w) A (.builtin "list.extend.loop" ⟨[.ref S,.ref z,res],[]⟩) R s:=by
 have lu:=ru.length;have lw:=rw'.length;intro n
 induction n with
 | zero =>
  intro k s H acc ia c hn hk hl I hTO fp Z hS rv q
  have hd:xs.drop k=[]:=VA (by omega)
  rw[hd] at q
  refine W4 F.entry_extend_loop (Hg ?_)
  refine TM (uI hh D Z (.inl (by simp;omega)) λh1 kp=>Ud ?_)
  have I1:Inv X pins σ H { s with heap:=h1,toks:=s.toks}:=o6 (turned:=[z,TO,i1,i2]) I (λb o nb e=>by simp only[Uh,UK,or_false,not_or] at nb;exact kp b o nb.1 nb.2.1 nb.2.2.1 nb.2.2.2 e) λb hb=>fp b (by grind)
  exact hR _ H acc ia c I1 (fp S (by simp)) (kp S _ nS.1 nS.2.2.1 nS.2.2.2.1 nS.2.2.2.2.1 hS) rv (by omega) (by rw[zL] at q;exact q)
 | succ n ih =>
  intro k s H acc ia c hn hk hl I hTO fp Z hS rv q
  have hsz:ia.size=k:=by rw[<- Wn,<- rv.length,hk]
  refine W4 F.entry_extend_loop (Hg ?_)
  by_cases hw:k < ws.length
  . have hx:k < xs.length:=by omega
    have hy:k < ys.length:=by omega
    obtain⟨ux,eu,rx⟩:=ru.get (UI hx);obtain⟨uy,ew,ry⟩:=rw'.get (UI hy);rw[VD hx,VD hy,zL] at q;refine TM (yk D Z (by simpa using eu) (by simpa using ew) λh1 Z1 P1 kp=>?_);have hp:=I.bx.fresh (T6 _);have I1:Inv X pins σ (upd H s.heap.objs.size (.tup [xs[k],ys[k]])) { s with heap:=h1,toks:=s.toks}:=by
     refine kF (turned:=[z,TO,i1,i2]) I (λb o nb e=>?_) (λb hb=>fp b ?_) (T6 _) ?_
     . simp only[Uh,UK,or_false,not_or] at nb;exact kp b o nb.1 nb.2.1 nb.2.2.1 nb.2.2.2 e
     . simp only[Uh,UK,or_false] at hb ⊢;rcases hb with rfl | rfl | rfl | rfl<;>simp
     . exact⟨by show 2<=Ub;decide,[ux,uy],.cons rx (.cons ry .nil),_,P1,rfl,_,rfl,rfl⟩
    have hS1:=kp S _ nS.1 nS.2.2.1 nS.2.2.2.1 nS.2.2.2.2.1 hS;have lS:=Uk hS;have old: ∀ b∈[z,TO,i1,i2,S],b < s.heap.objs.size:=λb hb=>by
     rcases(by simpa using hb) with rfl | rfl | rfl | rfl | rfl
     . obtain⟨o,e,_⟩:=Z.ty;exact Uk e
     . exact hTO
     . obtain⟨o,e,_⟩:=Z.one;exact Uk e
     . obtain⟨o,e,_⟩:=Z.two;exact Uk e
     . exact lS
    have fp1: ∀ b∈[z,TO,i1,i2,S],gx X pins (upd H s.heap.objs.size (.tup [xs[k],ys[k]])) b:=λb hb=>by
     refine NP (fp b hb) λe=>absurd (old b hb) (by rw[e];exact U5 _)
    show Ur _ A.in1 (updateSeq S (·.push (.ref s.heap.objs.size)) >>= _) _ _ _
    refine TM ?_;have oth: ∀ b o,b≠S->h1.get? b=TK o->(h1.update S (Wd (·.push (.ref s.heap.objs.size)))).get? b=TK o:=λb o hb e=>(V8 _ _ (VI hb)).trans e
    have hS2:(h1.update S (Wd (·.push (.ref s.heap.objs.size)))).get? S=TK _:=We _ hS1 rfl
    have I2:Inv X pins σ (upd H s.heap.objs.size (.tup [xs[k],ys[k]])) { s with heap:=h1.update S (Wd (·.push (.ref s.heap.objs.size))),toks:=s.toks} :=
     o6 (s:={ s with heap:=h1,toks:=s.toks}) (turned:=[S]) I1 (λb o nb e=>oth b o (by simpa using nb) e) λb hb=>fp1 b (by simp only[Uh,UK,or_false] at hb ⊢; simp[hb])
    refine Zi hS1 rfl (Ud ⟨Yx F.plain_extend_loop _,?_⟩) (by rw[hsz];omega) (by show(ia.push _).size<=Ub+1;rw[Array.size_push,hsz];omega);have hTO2:TO < (h1.update S (Wd (·.push (.ref s.heap.objs.size)))).objs.size:=by
     have:=Uk P1;rw[Heap.size_update];exact aav hTO this
    refine ih (k+1) _ _ (acc++[.ref s.heap.objs.size]) (ia.push (.ref s.heap.objs.size)) _ (by omega) (by simp[hk]) (by omega) I2 hTO2 fp1 (Z1.kept nS oth λT o e=>?_) hS2 (by rw[aax];exact p6 rv rfl) (q _ hp);by_cases e':T=S
    . subst e';exact⟨_,hS2⟩
    . exact⟨_,oth T o e' e⟩
  . have hd:ys.drop k=[]:=VA (by omega);have hx:k < xs.length:=by omega
    rw[VD hx,hd,zL] at q;refine TM (uI hh D Z (.inr (by simp;omega)) λh1 kp=>Ud ?_);have I1:Inv X pins σ H { s with heap:=h1,toks:=s.toks}:=o6 (turned:=[z,TO,i1,i2]) I (λb o nb e=>by simp only[Uh,UK,or_false,not_or] at nb;exact kp b o nb.1 nb.2.1 nb.2.2.1 nb.2.2.2 e) λb hb=>fp b (by simp only[Uh,UK,or_false] at hb ⊢; rcases hb with rfl | rfl | rfl | rfl<;>simp);exact hR _ H acc ia c I1 (fp S (by simp)) (kp S _ nS.1 nS.2.2.1 nS.2.2.2.1 nS.2.2.2.2.1 hS) rv (by omega) q
section
variable{X:Cx}{pins:List (Uj × Obj)}{σ :L2.St}{H:Hp}{s:Ua}
theorem vK:aad (.type "zip") "__len__" =pure TL:=by rw[typeLookup_type,builtinLookup_eq_fast];kernel_rfl
theorem uw:aad (.type "zip") "__length_hint__" =pure TL:=by rfl
theorem xW{TI TO}(nz:S≠z)(hz:ZZ s.heap z TI TO .none)(e:s.heap.get? S=TK { cls:= .type "list",dict:=TL,data:= .seq #[] c,slots:= #[]})
  (q: ∀ h' c',(∀ b o,b≠S->s.heap.get? b=TK o->h'.get? b=TK o)->h'.get? S=TK { cls:= .type "list",dict:=TL,data:= .seq #[] c',slots:= #[]}->WN (Uu prog w) A (.builtin "list.extend.loop" ⟨[.ref S,.ref z,res],[]⟩) R { s with heap:=h'}) :
  Ur (Uu prog w) A.in1 (Builtin.List.listExtendWith (.ref S) (.ref z) res) (λfin u=>match fin with | .done f=>R (.ok f) u | .again d=>d.quiet=true/\WN (Uu prog w) A d R u) (λx u=>R (.error x) u) s:=by
 have ty:s.TypeIs (.ref z) "zip" :=⟨_,hz,rfl⟩
 have no: ¬ ((Yy (.ref S) (.ref z)||Wb "zip" == Wb "list" ||Wb "zip" == Wb "tuple")=true):=by simp[Yy,nz]
 have e1:=We (Wd (·.push Wx)) e rfl
 have e2:=We (Wd (·.pop)) e1 rfl
 have up: ∀ b o,b≠S->s.heap.get? b=TK o->((s.heap.update S (Wd (·.push Wx))).update S (Wd (·.pop))).get? b=TK o:=λb o n y=>by rw[V8 _ _ n.symm,V8 _ _ n.symm,y]
 have hint: ∀{Q:Bool->Ua->Prop}{E:TY->Ua->Prop},Q true s->Ur (Uu prog w) A.in1 (XT (.ref z)) Q E s:=λg =>
  TM (XG ty vK (TM (m:=specialOf (Uv z) (TU "__length_hint__")) (XG ty uw (Ud g))))
 exact TM (m:=aaZ (.ref z)) (XR ty (Nc no (TM (m:=Z9 (.ref z)) (YJ hz (TM (m:=WS [.ref z] (XT (.ref z))) (VP (hint (QJ (by rfl) (TM (m:=rule _) (Y6
  (TM (m:=updateSeq S (·.push .none) >>= λ_=>updateSeq S (·.pop)) (TM (Zi e rfl (Zi (hz:=by seq_fits) e1 rfl (Ud ⟨Yx F.plain_extend_loop _,q _ _ up e2⟩)))))))))))))))
end
section
variable{X:Cx}{pg:Tb}{k:Nat}{a b:UR}{ma mb:ME}{p p2 pos pos2:Pos}
noncomputable def gq(xs ys:List PV):List PV:=(xs.zip ys).map λq=> .tup [q.1,q.2]
theorem LH{K}: ∀ xs ys us ws acc racc H,cB K ρ h H->ai K ρ H xs us->ai K ρ H ys ws->ai K ρ H acc racc ->
  (∀ rs H2,Gr ρ H ρ H2->cB K ρ h H2->ai K ρ H2 (acc++gq xs ys) rs->Q rs H2)->zL us ws racc H Q:=by
 intro xs
 induction xs with
 | nil =>
  intro ys us ws acc racc H s r1 r2 r3 q
  subst r1
  exact q _ _ (.refl _ _) s (by simpa [gq] using r3)
 | cons x xs ih =>
  intro ys us ws acc racc H s r1 r2 r3 q
  obtain⟨u,us,rfl,ru,r1⟩:=ar.mp r1
  cases ys with
  | nil =>
   subst r2
   exact q _ _ (.refl _ _) s (by simpa [gq] using r3)
  | cons y ys =>
   obtain⟨v,ws,rfl,rv,r2⟩:=ar.mp r2
   intro p hp
   have g:Gr ρ H ρ (upd H p (.tup [u,v])):=Gr.pR hp
   refine ih ys us ws (acc++[.tup [x,y]]) _ _ (s.tup hp) (ai.gr g _ _ r1) (ai.gr g _ _ r2) (ai.app (ai.gr g _ _ r3) (ai.one ?_)) λrs H2 g2 z2 r=>q rs H2 (g.trans g2) z2 ?_
   . exact⟨p,_,rfl,aI,ar.mpr ⟨_,_,rfl,rel.gr g _ _ ru,ai.one (rel.gr g _ _ rv)⟩⟩
   . rw[TZ] at r;exact r
end
end P3
end
section
open PySem PySem.W PyProof.Rows
namespace L2
open PySem PySem.Spec PyProof.Rows
section
variable{X:Cx}
def Rn:V->List V->Hp->VK->Prop:=λx vs H Q=> ∃ l xs,x= .ref l/\vs=[]/\H l=TK (.lst xs)/\Q .non (upd H l (.lst xs.reverse))
theorem Mh:QL X "list.reverse" Rn:=by
 intro pins s σ H x vs v us Q I rx rv h;obtain⟨l,xs,rfl,rfl,hH,q⟩:=h;cases rx;obtain rfl:=rv.zero;obtain⟨z,ak,n,r,hl,e⟩:=I.tU hH;refine VS F.slot_list_reverse ⟨_,e,rfl⟩ F.entry_list_reverse (F.args_list_reverse_1 _) (AutoListH.list_reverse_list_0 l ak.toArray n (by rw[Ux];omega)) ⟨e,?_⟩;exact⟨.non,_,I.Ib (its':=ak.reverse) hH e (by simp) r.reverse (by rw[List.length_reverse];exact z),rfl,q⟩
end
end L2
namespace P3
open PySem PySem.Spec PyProof.Rows L2
section
variable{X:Cx}{pg:Tb}{k:Nat}
theorem ai.rev{K:TQ}{ρ :List Uj}{H:Hp}: ∀{xs:List PV}{vs:List V},ai K ρ H xs vs->ai K ρ H xs.reverse vs.reverse
 | [],vs,h=>by rw[ai] at h;subst h;simp[ai]
 | x::r,vs,h=>by
  obtain⟨v,t,rfl,r1,r2⟩:=ar.mp h;rw[Xk,Xk];exact ai.app (ai.rev r2) (ar.mpr ⟨_,_,rfl,r1,by rw[ai]⟩)
def y8(x:PV)(vs:List PV)(h:PH):RV PV:=match x,vs with
 | .ref n,[]=>(match h[n]? with
  | some (.lst xs)=> .ok .non (h.set n (.lst xs.reverse))
  | _=> .no)
 | _,_=> .no
theorem O5:cC X pg k-> ∃ r,vz X "list.reverse" r/\Hu X.K "list" r y8 aJ:=λA=>⟨_,Mh,fun ρ h H x x' s r e=>oz s r e,fun ρ h H x x' xs us Q v h' s rx rs q P=>by
 unfold y8 at q;split at q
 . rename_i n;split at q
   . rename_i ys en;cases q;obtain⟨b,vs,rfl,ea,e1,e2⟩:=s.lst en rx;rw[ai] at rs;have g:Gr ρ H ρ (upd H b (.lst vs.reverse)):=Gr.write (.inl ⟨_,e1⟩);exact⟨b,vs,rfl,rs,e1,P _ ρ _ g (s.write en ea rfl rfl ⟨_,aI,ai.gr g _ _ e2.rev⟩) (by rw[rel])⟩
   . cases q
 . cases q⟩
theorem OR{n:Nat}{h:PH}{xs:List PV}(e:h[n]?=TK (.lst xs)):y8 (.ref n) [] h= .ok .non (h.set n (.lst xs.reverse)):=by simp[y8,e]
variable{d:UR}{md:ME}{apos cpos:Pos}
theorem PB{name:Str}{id T:String}{f:PV->List PV->PH->RV PV}{ty:PV->PH->Bool}(pa:YW T)(slot:Slot T name id)(hty:aaZ (.builtin id)=pure (.type "method_descriptor"))(hm:cC X pg k-> ∃ r,vz X id r/\Hu X.K T r f ty)
  (ho:JE X pg k d md) (hbase:VQ d name X.env (Vl d X.env)=Vl d X.env:=by rfl) (hline:(apos.endLine == cpos.line)=true:=by rfl) :
  JE X pg k (.Call (.Attribute d name apos) [] [] cpos) (eM f ty md af):=⟨λA=>by
 obtain⟨_,q0,s0⟩:=ho.h A;obtain⟨_,q,s⟩:=hm A;refine⟨_,⟨Km pa slot hty q q0.h hbase hline⟩,fun ρ h H e σ Q v h' z r q P=>?_⟩;obtain⟨x,h1,e1,q⟩:=bind_eq.mp q;refine s0 ρ h H e σ _ _ _ z r e1 λx' ρ1 H1 g1 z1 r1=>?_;split at q
 . rename_i ht;exact⟨s.1 ρ1 h1 H1 x x' z1 r1 ht,s.2 ρ1 h1 H1 x x' [] [] Q v h' z1 r1 (by rw[ai]) q (P.gr g1)⟩
 . cases q⟩
end
end P3
end
section
open PySem PySem.W PyProof.Rows
namespace L2
open PySem PySem.Spec PyProof.Rows
section
variable{X:Cx}
theorem Bf:cT X (VC .FloorDiv) (rI (λ_ j=>0 < j/\j < 18446744073709551616) λi j=> .int (i / j)):=Ra λi j _ _ _ _ _ hc q=>by
 have h1:(0:Int) < j:=hc.1;have h2:j < 18446744073709551616:=hc.2;have z:j.natAbs≠0:=by omega
 have lg:j.natAbs.log2 < 64:=(aaP z).mpr (by omega);exact floordiv_int (by omega) (by rw[Int.fdiv_eq_ediv_of_nonneg i (by omega)];exact q) (.inl (PyProof.noPylong_of_log2 (by omega)))
def Pq:List V->Hp->VK->Prop:=λxs H Q=>(∃ x,xs=[.str x]/\Q (.str x) H)\/ ∃ i:Int,xs=[.int i]/\i.natAbs.log2 < 1920/\Q (.str (TU (toString i))) H
theorem Ct:bj X (.type "str") Pq:=by
 intro pins s σ H xs us Q I r h;rcases h with⟨x,rfl,q⟩ | ⟨i,rfl,hi,q⟩
 . obtain⟨u,rfl,t,rfl⟩:=r.one;exact P.str_of_str ⟨.str x,H,I,⟨t,rfl⟩,q⟩
 . obtain⟨u,rfl,t,rfl⟩:=r.one;refine P.str_of_int hi ?_;exact⟨.str _,H,I.kept (t':=s.toks+1) (λb o e=>e),⟨_,rfl⟩,q⟩
theorem xy: ∀{ss:List Str}{ak:List TY},Vals (ss.map V.str) ak-> ∃ l:List (Str × Tok),ak=aaH l/\l.map (·.1)=ss
 | [],ak,h=>by cases h;exact⟨[],rfl,rfl⟩
 | x::r,ak,h=>by
  cases h with
  | cons a b =>
   obtain⟨t,rfl⟩:=a
   obtain⟨l,rfl,e⟩:=xy b
   exact⟨(x,t)::l,rfl,by rw[T9,e]⟩
def rJoin:V->List V->Hp->VK->Prop:=λx vs H Q=> ∃ a l ss,x= .str a/\vs=[.ref l]/\H l=TK (.lst (ss.map V.str))/\aa7 a ss=true/\Q (.str (aa8 a ss)) H
theorem E6:vz X "str.join" rJoin:=by
 intro pins s σ H x vs v us Q I rx rv h;obtain⟨a,l,ss,rfl,rfl,hH,hj,q⟩:=h;obtain⟨t,rfl⟩:=rx;obtain⟨u,rfl,ru⟩:=rv.one;cases ru;obtain⟨z,ak,n,r,hl,e⟩:=I.tU hH;obtain⟨ps,rfl,ep⟩:=xy r;exact SC.join (l:=ps) ⟨_,e,rfl,n,rfl⟩ ep hj λt' k=>⟨.str _,H,I.kept (t':=k) (λb o e=>e),⟨_,rfl⟩,q⟩
end
end L2
namespace P3
open PySem PySem.Spec PyProof.Rows L2
section
variable{X:Cx}{pg:Tb}{k:Nat}
def jB:PV->PV->PH->RV PV:=p2 λi j=>if 0 < j/\j < 18446744073709551616 then Dc (.int (i / j)) else .no
theorem Dj:cC X pg k-> ∃ r,cT X (VC .FloorDiv) r/\kZ X.K r jB:=λ_=>⟨_,Bf,Mt λi j v h e=>by
 split at e
 . rename_i c;cases e;exact⟨c,fun ρ H=>by rw[rel]⟩
 . cases e⟩
theorem yR{i j:Int}{h:PH}(hj:0 < j/\j < 18446744073709551616):jB (.int i) (.int j) h= .ok (.int (i / j)) h:=by unfold jB p2;simp[hj,Dc,iQ]
noncomputable def cU:List PV->PH->RV PV:=λxs h=>match xs with
 | [.str x]=> .ok (.str x) h
 | [.int i]=>if i.natAbs.log2 < 1920 then .ok (.str (TU (toString i))) h else .no
 | _=> .no
theorem J3:cC X pg k-> ∃ r,bj X (.type "str") r/\zr X.K r cU:=λA=>⟨_,Ct,fun ρ h H xs us Q v h' s r q P=>by
 unfold cU at q;split at q
 . cases q;obtain⟨u,rfl,r1⟩:=a8 r;rw[rel] at r1;subst r1;exact .inl ⟨_,rfl,P _ ρ H (.refl _ _) s (by rw[rel])⟩
 . split at q
   . rename_i hi;cases q;obtain⟨u,rfl,r1⟩:=a8 r;rw[rel] at r1;subst r1;exact .inr ⟨_,rfl,hi,P _ ρ H (.refl _ _) s (by rw[rel])⟩
   . cases q
 . cases q⟩
theorem uV{x:Str}{h:PH}:cU [.str x] h= .ok (.str x) h:=(rfl)
theorem pj{i:Int}{h:PH}(h0:0<=i)(h9:i<=1000000):cU [.int i] h= .ok (.str (TU (toString i))) h:=by
 refine if_pos ?_;by_cases z:i.natAbs=0
 . rw[z];decide
 . have:i.natAbs.log2 < 20:=(aaP z).mpr (by omega);omega
theorem uo{K:TQ}{ρ :List Uj}{H:Hp}: ∀{ss:List Str}{vs:List V},ai K ρ H (ss.map PV.str) vs->vs=ss.map V.str
 | [],vs,h=>by rw[UE,ai] at h;exact h
 | x::r,vs,h=>by
  rw[T9] at h;obtain⟨v,t,rfl,r1,r2⟩:=ar.mp h;rw[rel] at r1;rw[r1,uo r2];rfl
theorem qC: ∀{xs:List PV}{ss:List Str},gh xs=TK ss->xs=ss.map PV.str
 | [],ss,e=>by cases e;rfl
 | x::r,ss,e=>by
  cases x<;>simp only[gh,reduceCtorEq] at e;rename_i a;cases q:gh r with
  | none=>rw[q] at e;cases e
  | some t =>
   rw[q] at e
   cases e
   rw[qC q];rfl
noncomputable def fO(x:PV)(_:PH):Bool:=match x with
 | .str _=>true
 | _=>false
theorem qA{K:TQ}{ρ :List Uj}{h:PH}{H:Hp}{x:PV}{v:V}(r:rel K ρ H x v)(e:fO x h=true):K3 K "str" v H:=by
 unfold fO at e;split at e
 . rw[rel] at r;subst r;exact rfl
 . cases e
def jd(x:PV)(vs:List PV)(h:PH):RV PV:=match x,vs with
 | .str a,[.ref n]=>(match h[n]? with
  | some (.lst xs)=>(match gh xs with
   | some ss=>if aa7 a ss=true then .ok (.str (aa8 a ss)) h else .no
   | none=> .no)
  | _=> .no)
 | _,_=> .no
theorem K1:cC X pg k-> ∃ r,vz X "str.join" r/\Hu X.K "str" r jd fO:=λA=>⟨_,E6,fun ρ h H x x' s r e=>qA r e,fun ρ h H x x' xs us Q v h' s rx rs q P=>by
 unfold jd at q;split at q
 . rename_i a n;split at q
   . rename_i ys en;split at q
     . rename_i ss es;split at q
       . rename_i hj;cases q;obtain rfl:=qC es;obtain⟨u,rfl,r1⟩:=a8 rs;obtain⟨b,vs,rfl,ea,e1,e2⟩:=s.lst en r1;rw[rel] at rx;rw[uo e2] at e1;exact⟨a,b,ss,rx,rfl,e1,hj,P _ ρ H (.refl _ _) s (by rw[rel])⟩
       . cases q
     . cases q
   . cases q
 . cases q⟩
theorem qI: ∀ ss:List Str,gh (ss.map PV.str)=TK ss
 | []=>rfl
 | x::r=>by rw[T9,gh,qI r];rfl
theorem vo{a:Str}{n:Nat}{h:PH}{ss:List Str}(e:h[n]?=TK (.lst (ss.map PV.str)))(hj:aa7 a ss=true):jd (.str a) [.ref n] h= .ok (.str (aa8 a ss)) h:=by
 simp only[jd,e,qI,hj,if_true]
variable{d e1 e2:UR}{md:ME}{mr:MA}{apos cpos:Pos}
end
end P3
end
section
open PySem PySem.W PyProof.Rows
namespace L2
open PySem PySem.Spec PyProof.Rows
section
variable{X:Cx}
theorem px: ∀(l:List (Str × Tok)),Vals ((l.map (·.1)).map V.str) (aaH l)
 | []=> .nil
 | (x,t)::r=> .cons ⟨t,rfl⟩ (px r)
def Ft:V->List V->Hp->VK->Prop:=λx vs H Q=> ∃ a b,x= .str a/\vs=[.str b]/\(b.length == 0)=false/\a.length<=Ub/\(VW a b).length<=Ub/\ ∀ p,H p=TL->Q (.ref p) (upd H p (.lst ((VW a b).map V.str)))
theorem yN:vz X "str.split" Ft:=by
 intro pins s σ H x vs v us Q I rx rv h;obtain⟨a,b,rfl,rfl,hb,ha,hn,q⟩:=h;obtain⟨t,rfl⟩:=rx;obtain⟨u,rfl,t2,rfl⟩:=rv.one;have put: ∀(ps:List (Str × Tok))(tk:Nat),ps.map (·.1)=VW a b->EP X pins σ Q (.ref s.heap.objs.size) { s with heap:=s.heap.push { cls:= .type "list",data:= .seq (aaH ps).toArray},toks:=tk}:=λps tk e=>by
  refine⟨.ref s.heap.objs.size,upd H s.heap.objs.size (.lst ((VW a b).map V.str)),I.laid (t':=tk) (λb u e=>T1 _ e) (T6 _) ?_,rfl,q _ (I.bx.fresh (T6 _))⟩;exact⟨by rw[TV];exact hn,aaH ps,0,by rw[<- e];exact px ps,Up _ rfl⟩
 cases c:(decide (a.length < b.length)||decide (ZU a < ZU b)) with
 | true =>
  refine VS F.slot_str_split (Xt _ _ _) F.entry_str_split (F.args_str_split_2 _ _) (meets_str_split_cannot_occur a b t t2 c) ?_
  exact put [(a,t)] s.toks (by unfold VW;rw[if_pos c];rfl)
 | false =>
  cases o:(Vd a b 0 a.length (a.length+1)).isEmpty with
  | true =>
   refine VS F.slot_str_split (Xt _ _ _) F.entry_str_split (F.args_str_split_2 _ _) (meets_str_split_not_found a b t t2 c hb o) ?_
   exact put [(a,t)] s.toks (by unfold VW;rw[if_neg (by rw[c];decide),if_pos o];rfl)
  | false =>
   have e:VW a b=Builtin.Str.partsBetween a (Vd a b 0 a.length (a.length+1)) b.length:=by
    unfold VW;rw[if_neg (by rw[c];decide),if_neg (by rw[o];decide)]
   refine VS F.slot_str_split (Xt _ _ _) F.entry_str_split (F.args_str_split_2 _ _) (meets_str_split_sep a b t t2 c hb o ha (by rw[<- e];exact hn)) ?_
   have w:=put (numbered s.toks (VW a b)) (s.toks+(VW a b).length) (numbered_texts _ _)
   rw[<- strsFrom_eq,e] at w
   exact w
noncomputable def dd:List Str->List Str
 | []=>[]
 | x::r=>if x∈dd r then dd r else x::dd r
end
section
variable{prog:UP}{w:U6}{A:Vk}
def Lj(prog:UP)(w:U6)(h:Vx)(S:Uj)(l:List Str):Prop:= ∃ ds:List Str,ds.Nodup/\(∀ k,k∈ds↔k∈l)/\h.SetOf (PySem.strKind prog w) S (λk=>decide (k∈ds)) ds.length
theorem Lj.at{h h':Vx}{S:Uj}{l:List Str}(x:Lj prog w h S l)(k: ∀ o,h.get? S=TK o->h'.get? S=TK o):Lj prog w h' S l:=by
 obtain⟨ds,a,b,o,es,ep,t,e,r⟩:=x;exact⟨ds,a,b,o,es,ep,t,k _ e,r⟩
end
end L2
namespace P3
open PySem PySem.Spec PyProof.Rows L2
section
variable{X:Cx}{pg:Tb}{k:Nat}{e:UR}{mr:MA}{p p2 p3 pos:Pos}
noncomputable def ph(x:PV)(vs:List PV)(h:PH):RV PV:=match x,vs with
 | .str a,[.str b]=>if (b.length == 0)=false/\a.length<=Ub/\(VW a b).length<=Ub then .ok (.ref h.length) (h++[.lst ((VW a b).map PV.str)]) else .no
 | _,_=> .no
theorem m_split:cC X pg k-> ∃ r,vz X "str.split" r/\Hu X.K "str" r ph fO:=λA=>⟨_,yN,fun ρ h H x x' s r e=>qA r e,fun ρ h H x x' xs us Q v h' s rx rs q P=>by
 unfold ph at q;split at q
 . rename_i a b;split at q
   . rename_i c;cases q;obtain⟨u,rfl,r1⟩:=a8 rs;rw[rel] at rx r1;exact⟨a,b,rx,by rw[r1],c.1,c.2.1,c.2.2,λp hp=>gW s (ja.mpr rfl) P p hp⟩
   . cases q
 . cases q⟩
theorem EW{a b:Str}{h:PH}(hb:(b.length == 0)=false)(ha:a.length<=16777216)(hn:(VW a b).length<=16777216):ph (.str a) [.str b] h= .ok (.ref h.length) (h++[.lst ((VW a b).map PV.str)]):=if_pos ⟨hb,ha,hn⟩
end
noncomputable def gI(f:Str)(v:PV):List (Str × PV)->List (Str × PV)
 | []=>[(f,v)]
 | (g,x)::r=>if g=f then(g,v)::r else(g,x)::gI f v r
structure uW(pg:Tb)(w:String)(C:Nat)(l:List Str):Prop where
 adr:pg.adr w=TK (C,l)
 df:pg.df w=TL
 cls:pg.cls w=TL
theorem uW.run{pg:Tb}{w:String}{C:Nat}{l:List Str}(W:uW pg w C l)(k:Nat)(vs:List PV)(h:PH):run pg (k+1) w vs h= .ok (.int C) h:=by rw[P3.run,W.df];simp only[W.cls,W.adr]
def gv(c:CF)(w:String)(x:PV)(h:PH):RV (Nat × Nat × List (Str × PV)):=match x with
 | .ref n=>(match h[n]? with
  | some (.obj C fs)=>(match c w [] h with
   | .ok (.int i) _=>if i=(C:Int) then .ok (n,C,fs) h else .no
   | _=> .no)
  | _=> .no)
 | _=> .no
noncomputable def yK(f:Str)(q:Nat × Nat × List (Str × PV))(h:PH):RV PV:=match q.2.2.lookup f with
 | some v=> .ok v h
 | none=> .no
def bO(w:String)(f:Str)(mo:ME):ME:=λc e h=>(mo c e h).bind λx h1=>(gv c w x h1).bind (yK f)
def nQ(f:Str)(v:PV)(e:az)(q:Nat × Nat × List (Str × PV))(h:PH):RV Fl:=if q.2.2.length < 1000 then .ok (.nx e) (h.set q.1 (.obj q.2.1 (gI f v q.2.2))) else .no
def oI(w:String)(f:Str)(mo mv:ME):MS:=λc e h=>(mv c e h).bind λy h1=>(mo c e h1).bind λx h2=>(gv c w x h2).bind (nQ f y e)
def GZ(f:Str)(g:String)(x:PV)(c:CF)(e:az)(ma:MA)(q:Nat × Nat × List (Str × PV))(h:PH):RV PV:=match q.2.2.lookup f with
 | none=>(ma c e h).bind λvs h1=>c g (x::vs) h1
 | some _=> .no
def fu(w:String)(f:Str)(g:String)(mo:ME)(ma:MA):ME:=λc e h=>(mo c e h).bind λx h1=>(gv c w x h1).bind (GZ f g x c e ma)
section
variable{K:TQ}{ρ :List Uj}{H:Hp}{h:PH}
abbrev RF(K:TQ)(ρ :List Uj)(H:Hp):List (Str × PV)->List (Str × V)->Prop:=V7 λ(p:Str × PV) (q:Str × V)=>p.1=q.1/\rel K ρ H p.2 q.2
theorem RF.look{f:Str}: ∀{fs:List (Str × PV)}{fws:List (Str × V)},RF K ρ H fs fws->(∀ v,fs.lookup f=TK v-> ∃ v',fws.lookup f=TK v'/\rel K ρ H v v')/\(fs.lookup f=TL->fws.lookup f=TL)
 | _,_,.nil=>⟨(λv e=>nomatch e),λ_=>rfl⟩
 | _,_,.cons (a:=p) (b:=q) r t=>by
  obtain⟨g,x⟩:=p;obtain⟨g',x'⟩:=q;obtain⟨i1,i2⟩:=RF.look (f:=f) t;have e:g=g':=r.1;subst e;rw[Vz,Vz];cases z:f == g with
  | true=>exact⟨λv e=>⟨x',rfl,by cases e;exact r.2⟩,λe=>nomatch e⟩
  | false=>exact⟨i1,i2⟩
theorem RF.put{f:Str}{v:PV}{v':V}(rv:rel K ρ H v v'): ∀{fs:List (Str × PV)}{fws:List (Str × V)},RF K ρ H fs fws->RF K ρ H (gI f v fs) (fQ f v' fws)
 | _,_,.nil=> .cons ⟨rfl,rv⟩ .nil
 | _,_,.cons (a:=p) (b:=q) r t=>by
  obtain⟨g,x⟩:=p;obtain⟨g',x'⟩:=q;have e:g=g':=r.1;subst e;rw[gI,fQ];split
  . exact .cons ⟨rfl,rv⟩ t
  . exact .cons r (RF.put rv t)
theorem RF.len{fs:List (Str × PV)}{fws:List (Str × V)}(r:RF K ρ H fs fws):fs.length=fws.length:=Xw r
theorem jR{pg:Tb}{k:Nat}{w:String}{C:Nat}{l:List Str}(W:uW pg w C l)(s:cB K ρ h H){x:PV}{x':V}(r:rel K ρ H x x'){z:Nat × Nat × List (Str × PV)}{h':PH}(q:gv (run pg k) w x h= .ok z h') :
  h'=h∧z.2.1=C∧h[z.1]?=TK (.obj C z.2.2)∧x= .ref z.1∧ ∃ a dx fws, ρ[z.1]?=TK a∧x'= .ref a∧H a=TK (.ins C dx fws)∧RF K ρ H z.2.2 fws:=by
 unfold gv at q;split at q
 . rename_i n;split at q
   . rename_i D fs e;have hk: ∃ j,k=j+1:=by
      cases k with
      | zero=>nomatch q
      | succ j=>exact⟨j,rfl⟩
     obtain⟨j,rfl⟩:=hk;rw[W.run] at q;simp only at q;split at q
     . rename_i eC;have eC:C=D:=by omega
       subst eC;cases q;rw[rel] at r;obtain⟨a,ea,rfl⟩:=r;obtain⟨dx,fws,e1,e2⟩:=s.ob n _ a e ea;exact⟨rfl,rfl,e,rfl,a,dx,fws,ea,rfl,e1,e2⟩
     . nomatch q
   . nomatch q
 . nomatch q
end
section
variable{X:Cx}{pg:Tb}{k:Nat}{w:String}{C:Nat}{l:List Str}{f m:Str}{o e:UR}{es:List UR}{mo mv:ME}{ma:MA}{pos apos:Pos}
theorem Lm(W:uW pg w C l)(hf:l.contains f=true)(ho:JE X pg k o mo)(hb:VQ o f X.env (Vl o X.env)=Vl o X.env:=by rfl):JE X pg k (.Attribute o f pos) (bO w f mo):=⟨λA =>
 let ⟨_,q1,s1⟩:=ho.h A
 ⟨_,⟨IS q1.h hb⟩,fun ρ h H e σ Q v h' s r q P=>by
  obtain⟨x,h1,e1,qa⟩:=bind_eq.mp q;obtain⟨z,h2,e2,qb⟩:=bind_eq.mp qa
  clear q qa
  refine s1 ρ h H e σ _ x h1 s r e1 λx' ρ' H' g s' rx=>?_;obtain⟨rfl,_,_,_,a,dx,fws,_,rfl,eH,rf⟩:=jR W s' rx e2;unfold yK at qb;split at qb
  . rename_i v0 ev;cases qb;obtain⟨v',l1,l2⟩:=(RF.look rf).1 v ev;obtain⟨cl,na⟩:=A.ct.adr w _ W.adr;exact⟨a,C,dx,fws,v',rfl,eH,cl,na f (WL.mp hf),l1,P v' ρ' H' g s' l2⟩
  . nomatch qb⟩⟩
theorem Ms(W:uW pg w C l)(hf:l.contains f=true)(ho:JE X pg k o mo)(hv:JE X pg k e mv)(hs:Wg e (TK (.Attribute o f apos)) pos.line X.env=pure false:=by rfl):JS X pg k (.Assign [.Attribute o f apos] e pos) (oI w f mo mv):=⟨λA =>
 let ⟨_,q1,s1⟩:=ho.h A
 let ⟨_,q2,s2⟩:=hv.h A
 ⟨_,⟨Ku q1.h q2.h hs⟩,fun ρ h H e σ D fl h' s r q P=>by
  obtain⟨y,h1,e1,qa⟩:=bind_eq.mp q;obtain⟨x,h2,e2,qb⟩:=bind_eq.mp qa;obtain⟨z,h3,e3,qc⟩:=bind_eq.mp qb
  clear q qa qb
  refine s2 ρ h H e σ _ y h1 s r e1 λy' ρ1 H1 g1 z1 ry=>?_;refine s1 ρ1 h1 H1 e σ _ x h2 z1 (r.gr g1) e2 λx' ρ2 H2 g2 z2 rx=>?_;obtain⟨rfl,eC,eh,_,a,dx,fws,ea,rfl,eH,rf⟩:=jR W z2 rx e3;unfold nQ at qc;split at qc
  . rename_i hl;cases qc;obtain⟨cl,na⟩:=A.ct.adr w _ W.adr;have g3:Gr ρ2 H2 ρ2 (upd H2 a (.ins C dx (fQ f y' fws))):=Gr.rp ⟨_,eH,(λ_ z=>HO.noConfusion z),λ_ _ z=>HO.noConfusion z⟩;refine⟨a,C,dx,fws,rfl,eH,cl,na f (WL.mp hf),by rw[<- RF.len rf];exact hl,P σ ρ2 _ ((g1.trans g2).trans g3) ?_ (((r.gr g1).gr g2).gr g3)⟩;rw[eC];exact z2.write eh ea rfl rfl ⟨dx,_,aI,RF.put (rel.gr (g2.trans g3) _ _ ry) (Paired.dg g3 rf)⟩
  . nomatch qc⟩⟩
end
section
variable{X:Cx}{pg:Tb}{k:Nat}{w:String}{C:Nat}{l:List Str}{f m:Str}{o e:UR}{es:List UR}{mo mv:ME}{ma:MA}{pos apos:Pos}
theorem Hd{K:TQ}{g:String}{ρ :List Uj}{h:PH}{H:Hp}{args:List PV}{vs:List V}{v:PV}{h':PH}{Q:VK}{E:XK}(s:cB K ρ h H)(r:ai K ρ H args vs)(q:run pg k g args h= .ok v h')(P:dh K ρ H v h' Q):jQ K pg k g vs H Q E:=⟨ρ,h,args,v,h',s,r,q,P⟩
theorem Aw(W:uW pg w C l){g:String}{to:TE}{ta:TA}(s1:SE (run pg k) X.K to mo)(s2:SA (run pg k) X.K ta ma):SE (run pg k) X.K (zB C m (jQ X.K pg k g) [] E0 to ta) (fu w m g mo ma):=fun ρ h H e σ Q v h' s r q P=>by
 obtain⟨x,h1,e1,qa⟩:=bind_eq.mp q;obtain⟨z,h2,e2,qb⟩:=bind_eq.mp qa
 clear q qa
 refine s1 ρ h H e σ _ x h1 s r e1 λx' ρ' H' g s' rx=>?_;obtain⟨rfl,_,_,ex,a,dx,fws,ea,rfl,eH,rf⟩:=jR W s' rx e2;unfold GZ at qb;split at qb
 . rename_i ev;obtain⟨vs,h3,e3,qc⟩:=bind_eq.mp qb;refine⟨a,dx,fws,rfl,eH,(RF.look rf).2 ev,s2 ρ' h2 H' e σ _ vs h3 s' (r.gr g) e3 λus ρ3 H3 g3 s3 r3=>?_⟩;rw[Ui];exact Hd s3 (ar.mpr ⟨_,us,rfl,rel.gr g3 _ _ rx,r3⟩) qc ((P.gr g).gr g3)
 . nomatch qb
theorem Le{g:String}{d:Df}{pl:Sem Bool}(W:uW pg w C l)(hm:pg.qE g=TK (w,m,d))(ho:JE X pg k o mo)(ha:JA X pg k (e::es) ma)(hs:noStar e=true:=by rfl)(hpl:es.all noStar=true:=by rfl)
  (ht:Vl (.Call (.Attribute o m apos) (e::es) [] pos) X.env=(do
   let ov <- Vl o X.env
   Yj apos.atName
   let (f,first) <- WS [ov] (YB ov m pl)
   aaY pos f first (Wq pos (UH (e::es) X.env)) (YC pos (Xb [] X.env))):=by rfl):JE X pg k (.Call (.Attribute o m apos) (e::es) [] pos) (fu w m g mo ma):=⟨λA=>by
 obtain⟨_,q1,s1⟩:=ho.h A;obtain⟨_,q2,s2⟩:=ha.h A;obtain⟨_,mt⟩:=A.mt k (T6 _) g w m d hm;obtain⟨fa,fd,me,F,bd⟩:=mt _ W.adr;exact⟨_,⟨EY q1.h (A.ct.adr w _ W.adr).1 me F A.room bd .nil uT q2.h (a9 hs) (fX hpl) ht⟩,Aw W s1 s2⟩⟩
theorem Gq{g:String}{d:Df}{pl:Sem Bool}(W:uW pg w C l)(hm:pg.qE g=TK (w,m,d))(ho:JE X pg k o mo)
  (ht:Vl (.Call (.Attribute o m apos) [] [] pos) X.env=(do
   let ov <- Vl o X.env
   Yj apos.atName
   let (f,first) <- WS [ov] (YB ov m pl)
   aaY pos f first (Wq pos (UH [] X.env)) (YC pos (Xb [] X.env))):=by rfl):JE X pg k (.Call (.Attribute o m apos) [] [] pos) (fu w m g mo af):=⟨λA=>by
 obtain⟨_,q1,s1⟩:=ho.h A;obtain⟨_,mt⟩:=A.mt k (T6 _) g w m d hm;obtain⟨fa,fd,me,F,bd⟩:=mt _ W.adr;exact⟨_,⟨zH q1.h (A.ct.adr w _ W.adr).1 me F A.room bd .nil uT ht⟩,Aw W s1 fun ρ h H e σ Q v h' s r q P=>by cases q;exact P [] ρ H (.refl _ _) s (bG.mpr rfl)⟩⟩
end
section
variable{X:Cx}{pg:Tb}{k:Nat}{w:String}{C:Nat}{l:List Str}{f m:Str}{o e:UR}{es:List UR}{mo mv:ME}{ma:MA}{pos apos p:Pos}
theorem xc{x:String}{q:Nat × String}(hd:pg.df x=TL)(hc:pg.cls x=TK q)(j:Nat)(vs:List PV)(h:PH):run pg (j+1) x vs h=(match run pg j q.2 (.ref h.length::vs) (h++[.obj q.1 []]) with
  | .ok .non h'=> .ok (.ref h.length) h'
  | _=> .no):=by rw[P3.run,hd];simp only[hc]<;>rfl
theorem wM{x:String}{q:Nat × String}(hd:pg.df x=TL)(hc:pg.cls x=TK q){j:Nat}{vs:List PV}{h h':PH}(e:run pg j q.2 (.ref h.length::vs) (h++[.obj q.1 []])= .ok .non h'):run pg (j+1) x vs h= .ok (.ref h.length) h':=by rw[xc hd hc,e]
theorem wW{x:String}{q:Nat × String}(hd:pg.df x=TL)(hc:pg.cls x=TK q){j:Nat}{ta:TA}(s2:SA (run pg (j+1)) X.K ta ma):SE (run pg (j+1)) X.K (zN q.1 (jQ X.K pg j q.2) [] E0 ta) (ag x ma):=fun ρ h H e σ Q v h' s r qq P=>by
 obtain⟨vs,h1,e1,qa⟩:=bind_eq.mp qq
 clear qq
 refine s2 ρ h H e σ _ vs h1 s r e1 λus ρ1 H1 g1 z1 r1 a dx na nd ne=>?_;rw[xc hd hc] at qa;split at qa
 . rename_i h2 e2;cases qa;have nx:upd H1 dx (.own a) a=TL:=by rw[av (VI ne)];exact na
   have g2:Gr ρ1 H1 ρ1 (upd H1 dx (.own a)):=Gr.pR nd;have g3:Gr ρ1 (upd H1 dx (.own a)) (ρ1++[a]) (upd (upd H1 dx (.own a)) a (.ins q.1 dx [])):=Gr.new nx [a];have s3:cB X.K (ρ1++[a]) (h1++[.obj q.1 []]) (upd (upd H1 dx (.own a)) a (.ins q.1 dx [])):=(z1.tup nd).new nx ⟨dx,[],aI,.nil⟩;have at_:(ρ1++[a])[h1.length]?=TK a:=by rw[<- z1.len];simp
   rw[Ui];refine Hd s3 (ar.mpr ⟨_,us,rfl,by rw[rel];exact⟨a,at_,rfl⟩,ai.gr (g2.trans g3) _ _ r1⟩) e2 λv' ρ' H' g s' rv=>?_;rw[rel] at rv;exact⟨rv,P _ ρ' H' (((g1.trans g2).trans g3).trans g) s' (by rw[rel];exact⟨a,g.pre _ _ at_,rfl⟩)⟩
 . nomatch qa
theorem D0{x:String}{q:Nat × String}(hc:pg.cls x=TK q)(hd:pg.df x=TL)(hg:Gl X (TU x))(ha:JA X pg k (e::es) ma)(hdb:(TU x == ("__debug__" :Str))=false:=by decide)(hs:noStar e=true:=by rfl)(hpl:es.all noStar=true:=by rfl) :
  JE X pg k (.Call (.Name (TU x) p) (e::es) [] pos) (ag x ma):=⟨λA=>by
 obtain⟨_,q2,s2⟩:=ha.h A;cases k with
 | zero=>exact⟨λ_ _ _=>False,⟨λ_ _ _ _ _ _ h=>h.elim⟩,fun ρ h H e σ Q v h' s r q P=>by
   obtain⟨vs,h1,e1,qa⟩:=bind_eq.mp q;nomatch qa⟩
 | succ j =>
  obtain⟨hm,mk,kp,c,d,l,hi,had⟩:=A.ct.cls x q hc
  obtain⟨_,mt⟩:=A.mt j (Zu _) q.2 c _ d hi
  obtain⟨fa,fd,me,F,bd⟩:=mt _ had
  exact⟨_,⟨DD ⟨mk,me.at_,me.fn,kp⟩ F A.room hg hm bd .nil uT q2.h hdb (a9 hs) (fX hpl)⟩,wW hd hc s2⟩⟩
theorem Bu{x:String}{q:Nat × String}(hc:pg.cls x=TK q)(hd:pg.df x=TL)(hg:Gl X (TU x))(hdb:(TU x == ("__debug__" :Str))=false:=by decide) :
  JE X pg k (.Call (.Name (TU x) p) [] [] pos) (ag x af):=⟨λA=>by
 cases k with
 | zero=>exact⟨λ_ _ _=>False,⟨λ_ _ _ _ _ _ h=>h.elim⟩,fun ρ h H e σ Q v h' s r q P=>by
   obtain⟨vs,h1,e1,qa⟩:=bind_eq.mp q;nomatch qa⟩
 | succ j =>
  obtain⟨hm,mk,kp,c,d,l,hi,had⟩:=A.ct.cls x q hc
  obtain⟨_,mt⟩:=A.mt j (Zu _) q.2 c _ d hi
  obtain⟨fa,fd,me,F,bd⟩:=mt _ had
  exact⟨_,⟨zG ⟨mk,me.at_,me.fn,kp⟩ F A.room hg hm bd .nil uT hdb⟩,wW hd hc fun ρ h H e σ Q v h' s r q P=>by cases q;exact P [] ρ H (.refl _ _) s (bG.mpr rfl)⟩⟩
def E3(f:Str)(e:az)(v y:PV)(q:Nat × Nat × List (Str × PV))(h:PH):RV Fl:=match v,y with
 | .int i,.int j=>nQ f (.int (i+j)) e q h
 | _,_=> .no
def Jp(w:String)(f:Str)(mo mv:ME):MS:=λc e h=>(mo c e h).bind λx h1=>((gv c w x h1).bind (yK f)).bind λv h1'=>(mv c e h1').bind λy h2=>(gv c w x h2).bind (E3 f e v y)
theorem Gm(W:uW pg w C l)(hf:l.contains f=true)(ho:JE X pg k o mo)(hv:JE X pg k e mv):JS X pg k (.AugAssign (.Attribute o f apos) .Add e pos) (Jp w f mo mv):=⟨λA =>
 let ⟨_,q1,s1⟩:=ho.h A
 let ⟨_,q2,s2⟩:=hv.h A
 ⟨_,⟨ze q1.h q2.h λpins s σ H x y u v Q I rx ry h=>Ee pins s σ H x y u v Q I rx ry h⟩,fun ρ h H e σ D fl h' s r q P=>by
  obtain⟨x,h1,e1,qa⟩:=bind_eq.mp q;obtain⟨v,h1',eb,qb⟩:=bind_eq.mp qa;obtain⟨z,h1'',ez,qz⟩:=bind_eq.mp eb;obtain⟨y,h2,e2,qc⟩:=bind_eq.mp qb;obtain⟨z2,h3,e3,qd⟩:=bind_eq.mp qc
  clear q qa qb qc eb
  refine s1 ρ h H e σ _ x h1 s r e1 λx' ρ1 H1 g1 z1 rx=>?_;obtain⟨rfl,_,_,ex,a,dx,fws,ea,rfl,eH,rf⟩:=jR W z1 rx ez;unfold yK at qz;split at qz
  . rename_i v0 ev;cases qz;obtain⟨v',l1,l2⟩:=(RF.look rf).1 v ev;obtain⟨cl,na⟩:=A.ct.adr w _ W.adr;refine⟨a,C,dx,fws,v',rfl,eH,cl,na f (WL.mp hf),l1,s2 ρ1 h1' H1 e σ _ y h2 z1 (r.gr g1) e2 λy' ρ2 H2 g2 s2' ry=>?_⟩;have rx2:=rel.gr g2 _ _ rx;obtain⟨rfl,eC,eh,_,b,dx2,fws2,ea2,eb2,eH2,rf2⟩:=jR W s2' rx2 e3;cases eb2;unfold E3 at qd;split at qd
    . rename_i i j;rw[rel] at ry l2;subst ry l2;unfold nQ at qd;split at qd
      . rename_i hl;cases qd;have g3:Gr ρ2 H2 ρ2 (upd H2 a (.ins C dx2 (fQ f (.int (i+j)) fws2))):=Gr.rp ⟨_,eH2,(λ_ z=>HO.noConfusion z),λ_ _ z=>HO.noConfusion z⟩;refine⟨i,j,rfl,rfl,dx2,fws2,eH2,by rw[<- RF.len rf2];exact hl,P σ ρ2 _ ((g1.trans g2).trans g3) ?_ (((r.gr g1).gr g2).gr g3)⟩;rw[eC];exact s2'.write eh ea2 rfl rfl ⟨dx2,_,aI,RF.put (by rw[rel]) (Paired.dg g3 rf2)⟩
      . nomatch qd
    . nomatch qd
  . nomatch qz⟩⟩
end
section
variable{X:Cx}{pins:List (Uj × Obj)}{σ :L2.St}{H:Hp}{s:Ua}
theorem Cz{prog:UP}{w:U6}{A:Vk}{R:aaE->Ua->Prop}{S z TI TO:Uj}{c:Nat}(nz:S≠z)(hz:ZZ s.heap z TI TO .none)(e:s.heap.get? S=TK { cls:= .type "list",dict:=TL,data:= .seq #[] c,slots:= #[]})
  (q: ∀ h' c',(∀ b o,b≠S->s.heap.get? b=TK o->h'.get? b=TK o)->h'.get? S=TK { cls:= .type "list",dict:=TL,data:= .seq #[] c',slots:= #[]}->WN (Uu prog w) A (.builtin "list.extend.loop" ⟨[.ref S,.ref z,.ref S],[]⟩) R { s with heap:=h'}) :
  WN (Uu prog w) A (.builtin "list.__iadd__" ⟨[.ref S,.ref z],[]⟩) R s:=W4 F.entry_list_iadd (by
 rw[ZH (id:= "list.__iadd__") F.plain_list_iadd];exact xW nz hz e q)
theorem vC{A:Vk}{z TI TO i1 i2 l1 l2:Uj}{xs ys:List V}{us ws:List TY}{R:aaE->Ua->Prop}(hh:A.handled=TL)(I:Inv X pins σ H s)(D:WQ z TI TO i1 i2 l1 l2)(Z:nI s.heap z TI TO i1 i2 l1 l2 0 us.toArray ws.toArray)(hf:ZZ s.heap z TI TO .none)(hTO:TO < s.heap.objs.size)
  (fp: ∀ b∈[z,TO,i1,i2],gx X pins H b) (ru:Vals xs us) (rw':Vals ys ws) (hz:us.length<=Ub) (q:zL xs ys [] H λrs H1=> ∀ S ia c s1,Inv X pins σ H1 s1->s1.heap.get? S=TK { cls:= .type "list",dict:=TL,data:= .seq ia c,slots:= #[]}->Vals rs ia.toList->rs.length<=Ub->R (.ok (.ret (.ref S))) s1):WN (Uu X.prog X.w) A (.builtin "proto.collect" ⟨[.ref z],[]⟩) R s:=by
 obtain⟨S,eS⟩: ∃ S,S=s.heap.objs.size:=⟨_,rfl⟩
 have far: ∀{a:Uj}{o:Obj},s.heap.get? a=TK o->S≠a:=λy=>by rw[eS];exact VR (Uk y)
 have nS:S≠z/\S≠TI/\S≠TO/\S≠i1/\S≠i2/\S≠l1/\S≠l2 :=
  ⟨far hf,far Z.ak,by rw[eS];exact VR hTO,let ⟨_,y,_⟩:=Z.one;far y,let ⟨_,y,_⟩:=Z.two;far y,let ⟨_,y,_⟩:=Z.l1;far y,let ⟨_,y,_⟩:=Z.l2;far y⟩
 have e0:(s.heap.push { cls:= .type "list",data:= .seq #[]}).get? S=TK { cls:= .type "list",data:= .seq #[]}:=by rw[eS];exact Up _ rfl
 have old: ∀ b o,s.heap.get? b=TK o->(s.heap.push { cls:= .type "list",data:= .seq #[]}).get? b=TK o:=λb o y=>T1 _ y;generalize hh0:s.heap.push { cls:= .type "list",data:= .seq #[]}=h0 at e0 old;have fS:gx X pins H S:=by rw[eS];exact I.zb (T6 _) (I.bx.fresh (T6 _))
 refine W4 F.entry_proto_collect ?_;refine TM (m:=newList []) (Vi ?_);show Ur _ _ _ _ _ { s with heap:=s.heap.push { cls:= .type "list",data:= .seq #[]}};rw[<- eS,hh0];refine Ud ⟨Yx F.plain_list_iadd _,Cz (s:={ s with heap:=h0}) nS.1 (old _ _ hf) e0 λh2 c2 k2 e2=>?_⟩;have k: ∀ b o,s.heap.get? b=TK o->h2.get? b=TK o:=λb o y=>k2 b o (far y).symm (old b o y);refine zY (A:=A) (S:=S) hh D nS ru rw' hz ?_ us.length 0 _ H [] _ _ rfl rfl (Vp _) (I.kept (t':=s.toks) k) ?_ (λb hb=>?_) (Z.kept (S:=S) nS (λb o _ y=>k b o y) λT o y=>⟨o,k T o y⟩) e2 .nil q
 . intro u H' acc ia c I1 f1 e rv hl Q';exact Q' S ia c u I1 e rv hl
 . exact aav hTO (by rw[<- eS];exact Uk e2)
 . rw[show[z,TO,i1,i2,S]=[z,TO,i1,i2]++[S] from rfl,Uz] at hb;rcases hb with m | m
   . exact fp b m
   . rw[UD.mp m];exact fS
set_option maxHeartbeats 2000000 in
theorem yH{z TI TO i1 i2 l1 l2:Uj}{xs ys:List V}{us ws:List TY}{Q:VK}(I:Inv X pins σ H s)(hc:X.calm=true)(D:WQ z TI TO i1 i2 l1 l2)(Z:nI s.heap z TI TO i1 i2 l1 l2 0 us.toArray ws.toArray)(hf:ZZ s.heap z TI TO .none)(hTO:TO < s.heap.objs.size)
  (fp: ∀ b∈[z,TO,i1,i2],gx X pins H b) (ru:Vals xs us) (rw':Vals ys ws) (hz:us.length<=Ub) (q:zL xs ys [] H λrs H1=> ∀ l,H1 l=TL->Q (.ref l) (upd H1 l (.tup rs))):Ur (Uu X.prog X.w) X.A (call (.type "tuple") [.ref z]) (EP X pins σ Q) X.xe s:=by
 have ty:s.TypeIs (.ref z) "zip" :=⟨_,hf,rfl⟩
 have zm: ∀(xs ys acc:List V)(H:Hp){Q1 Q2:List V->Hp->Prop},(∀ rs H1,Q1 rs H1->Q2 rs H1)->zL xs ys acc H Q1->zL xs ys acc H Q2:=λxs=>by
  induction xs with
  | nil=>exact λys acc H Q1 Q2 f h=>by rw[zL] at h ⊢; exact f _ _ h
  | cons x xs ih =>
   intro ys acc H Q1 Q2 f h
   cases ys with
   | nil=>rw[zL] at h ⊢; exact f _ _ h
   | cons y ys=>rw[zL] at h ⊢; exact λp hp=>ih ys _ _ f (h p hp)
 refine callType_codes (Q₁ :=λv u=>u.TypeIs v "tuple" /\EP X pins σ Q v u) F.called_tuple (F.typeCall_tuple_1 _) F.entry_object_init ?_ λv u g=>⟨g.1,F.args_object_init_2 v _,object_init_meets F.called_tuple.init.lookup F.called_tuple.made (by decide) _ _ _ _ u ⟨g.1,rfl,g.2⟩⟩
 refine codeAny_of_tree (TM (m:=checkBuiltinCall _ _) (aaN (F.newCall_tuple_1 _) (Ud ⟨Yx F.plain_tuple_new _,W4 F.entry_tuple_new ?_⟩)));have a1:=sub_tuple_self;have a2:=init_tuple_lookup;have a3:=madeHere_tuple
 wp_walk using XR ty
 refine vC (by exact I.ok.hd hc) I D Z hf hTO fp ru rw' hz (zm _ _ _ _ (λrs H1 q1 S ia c s1 I1 e rv hl=>?_) q);refine TM (m:=load S) (WO e (Ud (TM (Ud (TM (m:=Vn _) (Vi ?_ (by show ia.toList.toArray.size<=Ub;rw[Array.toArray_toList,<- Wn,<- rv.length];exact hl)))))));have hn:H1 s1.heap.objs.size=TL:=I1.bx.fresh (T6 _);exact Ud ⟨⟨_,Up _ rfl,rfl⟩,.ref s1.heap.objs.size,upd H1 s1.heap.objs.size (.tup rs),I1.laid (t':=s1.toks) (λb u e=>T1 _ e) (T6 _) ⟨hl,ia.toList,rv,⟨_,Up _ rfl,rfl,_,rfl,rfl⟩⟩,rfl,q1 _ hn⟩
end
section
variable{X:Cx}{pg:Tb}{k:Nat}{a b:UR}{ma mb:ME}{p p2 pos pos2:Pos}
def Ti(K:TQ)(ta:TA):TE:=fun σ H Q=>ta σ H λvs H1=> ∃ a1 a2 xs ys,vs=[.ref a1,.ref a2]/\fA K H1 a1 xs/\fA K H1 a2 ys/\zL xs ys [] H1 λrs H2=> ∀ l,H2 l=TL->Q (.ref l) (upd H2 l (.tup rs))
theorem Ea{ta:TA}(hc:X.calm=true)(hl:Gl X "tuple")(hml:X.mg "tuple" =TL)(hg:Gl X "zip")(hm:X.mg "zip" =TL)(ha:PA X [a,b] ta)(hs:UH [a,b] X.env=[(false,Vl a X.env),(false,Vl b X.env)])(hs2:UH [b] X.env=[(false,Vl b X.env)]) :
  PE X (.Call (.Name "tuple" p) [.Call (.Name "zip" p2) [a,b] [] pos2] [] pos) (Ti X.K ta):=by
 intro pins s σ H Q I h;refine VZ (gO I hl hml boot_tuple (U9 ?_ rfl rfl));show Ur _ _ (spliced ((false,Vl (.Call (.Name "zip" p2) [a,b] [] pos2) X.env)::Wq pos (UH [] X.env))) _ _ s;refine aab ?_;refine VZ (gO I hg hm boot_zip (U9 (eF (ha pos2 pins s σ H _ I h) λus s1 ⟨vs,H1,I1,r1,a1,a2,xs,ys,e,q1,q2,q⟩=>?_) (by rw[hs,hs2]) (by rw[hs2];rfl)));subst e;cases r1 with
 | cons ra rr =>
  cases rr with
  | cons rb rr =>
   cases rr
   cases ra
   cases rb
   obtain⟨u1,ru1,e1,z1⟩:=I1.list q1
   obtain⟨u2,ru2,e2,z2⟩:=I1.list q2
   have lt1:a1 < s1.heap.objs.size:=let ⟨_,e,_⟩:=e1.isList;Uk e
   have lt2:a2 < s1.heap.objs.size:=let ⟨_,e,_⟩:=e2.isList;Uk e
   refine call_zip_2 e1.isList e2.isList λh' Z1 Z2 Z3 Z4 Z5 sz kp=>aap ?_
   refine yH (s:={ s1 with heap:=h',toks:=s1.toks}) (I1.kept (t':=s1.toks) kp) hc (zipApart_new lt1 lt2) ⟨.inl ⟨_,_,Z1,Z3⟩,Z2,Z4,Z5,e1.isList.at λo e=>kp _ o e,e2.isList.at λo e=>kp _ o e⟩ Z1 (Uk Z3) (λc hc=>?_) ru1 ru2 (by rw[<- ru1.length];exact z1) q
   have hle:s1.heap.objs.size<=c:=by
    simp only[Uh,UK,or_false] at hc;rcases hc with rfl | rfl | rfl | rfl<;>omega
   exact I1.zb hle (I1.bx.fresh hle)
def Hb:PV->PV->PH->RV PV:=λx y h=>match x,y with
 | .ref n,.ref m=>(match h[n]?,h[m]? with
  | some (.lst xs),TK (.lst ys)=> .ok (.tup (gq xs ys)) h
  | _,_=> .no)
 | _,_=> .no
theorem DI(hl:Gl X "tuple")(hg:Gl X "zip")(ha:JE X pg k a ma)(hb:JE X pg k b mb)(hs1:noStar a=true:=by rfl)(hs2:noStar b=true:=by rfl):JE X pg k (.Call (.Name "tuple" p) [.Call (.Name "zip" p2) [a,b] [] pos2] [] pos) (aq Hb ma mb):=⟨λA =>
 let ⟨_,q1,s1⟩:=ha.h A;let ⟨_,q2,s2⟩:=hb.h A
 ⟨_,⟨Ea A.calm hl (A.blt _ (by decide +kernel)) hg (A.blt _ (by decide +kernel)) (qk q1 (qk q2 rF hs2) hs1).h (by rw[a9 hs1,a9 hs2];rfl) (by rw[a9 hs2];rfl)⟩,fun ρ h H e σ Q v h' s r q P=>by
 obtain⟨x,h1,e1,qa⟩:=bind_eq.mp q
 obtain⟨y,h2,e2,qb⟩:=bind_eq.mp qa
 clear q qa
 refine s1 ρ h H e σ _ x h1 s r e1 λx' ρ1 H1 g1 z1 r1=>?_
 refine s2 ρ1 h1 H1 e σ _ y h2 z1 (r.gr g1) e2 λy' ρ2 H2 g2 z2 r2=>?_
 unfold Hb at qb
 split at qb
 . rename_i n m;split at qb
   . rename_i xs ys en em;cases qb;obtain⟨b1,vs,rfl,_,eb,ec⟩:=z2.lst en (rel.gr g2 _ _ r1);obtain⟨b2,ws,rfl,_,eb',ec'⟩:=z2.lst em r2;refine⟨b1,b2,vs,ws,rfl,.of eb,.of eb',LH _ _ _ _ [] [] H2 z2 ec ec' (bG.mpr rfl) λrs H3 g3 z3 r3 l hl=>?_⟩;have g4:Gr ρ2 H3 ρ2 (upd H3 l (.tup rs)):=Gr.pR hl;exact P _ ρ2 _ (((g1.trans g2).trans g3).trans g4) (z3.tup hl) (by rw[rel];exact⟨l,rs,rfl,aI,ai.gr g4 _ _ r3⟩)
   . nomatch qb
 . nomatch qb⟩⟩
theorem OF{n m:Nat}{xs ys:List PV}{h:PH}(en:h[n]?=TK (.lst xs))(em:h[m]?=TK (.lst ys)):Hb (.ref n) (.ref m) h= .ok (.tup (gq xs ys)) h:=by
 simp only[Hb,en,em]
end
abbrev TF:=Str->L2.St->Hp->(Str->Hp->Prop)->Prop
def Im(X:Cx)(es:List UR)(t:TF):Prop:= ∀(acc:Str)(pins:List (Uj × Obj))(s:Ua)(σ :L2.St)(H:Hp)(Q:Str->Hp->Prop),Inv X pins σ H s->t acc σ H Q->Joins (Uu X.prog X.w) X.A X.xe (evalEach es X.env) acc (λout s1=> ∃ H',Inv X pins σ H' s1/\Q out H') s
noncomputable def NR:TF:=λacc _ H Q=>Q acc H
noncomputable def Tr(x:Str)(t:TF):TF:=λacc σ H Q=>(acc++x).length<=Ub/\t (acc++x) σ H Q
def Tn(v:V)(y:Str):Prop:=v= .str y\/ ∃ i:Int,v= .int i/\i.natAbs.log2 < 1920/\y=TU (toString i)
noncomputable def Tf(te:TE)(t:TF):TF:=λacc σ H Q=>te σ H λv H1=> ∃ y,Tn v y/\y.length<=Ub/\(acc++y).length<=Ub/\t (acc++y) σ H1 Q
section
variable{X:Cx}{e:UR}{es:List UR}{te:TE}{t:TF}{pos:Pos}
theorem Du:Im X [] NR:=λacc pins s σ H Q I h=>⟨H,I,h⟩
theorem CQ{x:Str}{j:Nat}(ht:Im X es t):Im X (.Constant (.str x) j pos::es) (Tr x t):=λacc pins s σ H Q I h =>
 show Ur _ _ _ _ _ _ from Z8 ⟨x,_,rfl,h.1,ht _ pins _ σ H Q (I.tok _) h.2⟩
theorem Jg(he:PE X e te)(ht:Im X es t):Im X (.FormattedValue e (-1) TL pos::es) (Tf te t):=λacc pins s σ H Q I h=>by
 show Ur _ _ _ _ _ _;refine wpAny_FormattedValue_plain (eF (he pins s σ H _ I h) λu s1 ⟨v,H1,I1,r,y,sh,ly,la,q⟩=>?_);rcases sh with rfl | ⟨i,rfl,hi,rfl⟩
 . obtain⟨t',rfl⟩:=r;exact wpAny_formatField_str ⟨y,_,rfl,la,ht _ pins _ σ H1 Q I1 q⟩ ⟨y,_,rfl,la,ht _ pins _ σ H1 Q (I1.tok _) q⟩ ly
 . obtain⟨t',rfl⟩:=r;exact wpAny_formatField_int hi ⟨_,_,rfl,la,ht _ pins _ σ H1 Q (I1.tok _) q⟩
noncomputable def Tz(t:TF):TE:=fun σ H Q=>t WH σ H λout H1=>out.length<=Ub/\Q (.str out) H1
theorem P9{v1 v2:UR}{rest:List UR}(ht:Im X (v1::v2::rest) t):PE X (.JoinedStr (v1::v2::rest) pos) (Tz t):=λpins s σ H Q I h=>by
 refine wpAny_JoinedStr ?_;have jm: ∀(ps:List (Sem TY))(acc:Str)(s:Ua){Q1 Q2:Str->Ua->Prop},(∀ o s,Q1 o s->Q2 o s)->Joins (Uu X.prog X.w) X.A X.xe ps acc Q1 s->Joins (Uu X.prog X.w) X.A X.xe ps acc Q2 s:=λps=>by
  induction ps with
  | nil=>exact λacc s _ _ f h=>f _ _ h
  | cons p ps ih=>exact λacc s _ _ f h=>eF h λv s1 ⟨y,t,e,l,q⟩=>⟨y,t,e,l,ih _ _ f q⟩
 exact jm _ _ _ (λout s1 ⟨H1,I1,l,q⟩=>⟨l,.str out,H1,I1.tok _,⟨_,rfl⟩,q⟩) (ht WH pins s σ H _ I h)
end
abbrev MF:=Str->CF->az->PH->RV Str
noncomputable def hW:MF:=λacc _ _ h=> .ok acc h
noncomputable def nV(x:Str)(m:MF):MF:=λacc c e h=>if (acc++x).length<=Ub then m (acc++x) c e h else .no
noncomputable def OE:PV->Option Str
 | .str y=>TK y
 | .int i=>if i.natAbs.log2 < 1920 then TK (TU (toString i)) else TL
 | _=>TL
def N5(m:MF)(acc:Str)(c:CF)(e:az)(v:PV)(h:PH):RV Str:=match OE v with
 | some y=>if y.length<=Ub/\(acc++y).length<=Ub then m (acc++y) c e h else .no
 | none=> .no
def pB(me:ME)(m:MF):MF:=λacc c e h=>(me c e h).bind (N5 m acc c e)
noncomputable def QN(out:Str)(h:PH):RV PV:=if out.length<=Ub then .ok (.str out) h else .no
def sM(m:MF):ME:=λc e h=>(m WH c e h).bind QN
def Tq(c:CF)(K:TQ)(t:TF)(m:MF):Prop:= ∀ acc ρ h H e σ Q out h',cB K ρ h H->dv K ρ H e σ ->m acc c e h= .ok out h'->jJ K ρ H h' (Q out)->t acc σ H Q
structure Ks(X:Cx)(pg:Tb)(k:Nat)(es:List UR)(m:MF):Prop where h:cC X pg k-> ∃ t,Im X es t/\Tq (run pg k) X.K t m
section
variable{X:Cx}{pg:Tb}{k:Nat}{e:UR}{es:List UR}{me:ME}{m:MF}{pos:Pos}
theorem ER:Ks X pg k [] hW:=⟨λA=>⟨_,Du,λacc ρ h H e σ Q out h' s r q P=>by cases q;exact P ρ H (.refl _ _) s⟩⟩
theorem Px{x:Str}{j:Nat}(ht:Ks X pg k es m):Ks X pg k (.Constant (.str x) j pos::es) (nV x m):=⟨λA =>
 let ⟨_,q1,s1⟩:=ht.h A
 ⟨_,CQ q1,λacc ρ h H e σ Q out h' s r q P=>by
  unfold nV at q;split at q
  . rename_i l;exact⟨l,s1 _ ρ h H e σ Q out h' s r q P⟩
  . nomatch q⟩⟩
theorem NU(he:JE X pg k e me)(ht:Ks X pg k es m):Ks X pg k (.FormattedValue e (-1) TL pos::es) (pB me m):=⟨λA =>
 let ⟨_,q0,s0⟩:=he.h A
 let ⟨_,q1,s1⟩:=ht.h A
 ⟨_,Jg q0.h q1,λacc ρ h H e σ Q out h' s r q P=>by
  obtain⟨v,h1,e1,qa⟩:=bind_eq.mp q
  clear q
  refine s0 ρ h H e σ _ v h1 s r e1 λv' ρ1 H1 g1 z1 r1=>?_;unfold N5 at qa;split at qa
  . rename_i y ey;split at qa
    . rename_i l;refine⟨y,?_,l.1,l.2,s1 _ ρ1 h1 H1 e σ Q out h' z1 (r.gr g1) qa (P.gr g1)⟩;unfold OE at ey;split at ey
      . cases ey;rw[rel] at r1;exact .inl r1
      . split at ey
        . rename_i i hi;cases ey;rw[rel] at r1;exact .inr ⟨i,r1,hi,rfl⟩
        . nomatch ey
      . nomatch ey
    . nomatch qa
  . nomatch qa⟩⟩
theorem Qx{v1 v2:UR}{rest:List UR}(ht:Ks X pg k (v1::v2::rest) m):JE X pg k (.JoinedStr (v1::v2::rest) pos) (sM m):=⟨λA =>
 let ⟨_,q1,s1⟩:=ht.h A
 ⟨_,⟨P9 q1⟩,fun ρ h H e σ Q v h' s r q P=>by
  obtain⟨out,h1,e1,qa⟩:=bind_eq.mp q
  clear q
  unfold QN at qa;split at qa
  . rename_i l;cases qa;exact s1 _ ρ h H e σ _ out _ s r e1 fun ρ1 H1 g1 z1=>⟨l,P _ ρ1 H1 g1 z1 (by rw[rel])⟩
  . nomatch qa⟩⟩
end
def lU:List PV->PH->RV PV:=λxs h=>match xs with
 | [.str x]=>if x.length<=640 then(match Ye x with | some n=> .ok (.int n) h | none=> .no) else .no
 | _=>Mg xs h
section
variable{X:Cx}{pg:Tb}{k:Nat}
theorem Jz:cC X pg k-> ∃ r,bj X (.type "int") r/\zr X.K r lU:=λA=>by
 obtain⟨r0,c0,s0⟩:=Pw A;refine⟨λvs H Q=>(∃ x n,vs=[.str x]/\Ye x=TK n/\x.length<=640/\Q (.int n) H)\/r0 vs H Q,?_,fun ρ h H xs us Q v h' s r q P=>?_⟩
 . intro pins s σ H vs us Q I rv h;rcases h with⟨x,n,rfl,hn,hl,q⟩ | h
   . cases rv with
     | cons ra rr =>
      cases rr
      obtain⟨t,rfl⟩:=ra
      exact KIN.call_text hn hl ⟨.int n,H,I.tok _,⟨_,rfl⟩,q⟩
   . exact c0 pins s σ H vs us Q I rv h
 . unfold lU at q;split at q
   . split at q
     . rename_i x hl;split at q
       . rename_i n hn;cases q;obtain⟨u,rfl,r1⟩:=a8 r;rw[rel] at r1;subst r1;exact .inl ⟨x,n,rfl,hn,hl,P _ ρ H (.refl _ _) s (by rw[rel])⟩
       . nomatch q
     . nomatch q
   . exact .inr (s0 ρ h H xs us Q v h' s r q P)
end
noncomputable def ae(pg:Tb)(w:String):Nat:=((pg.adr w).getD (0,[])).1
noncomputable def Gd:Xe->List Xe
 | .ClassDef _ _ _ b _ _ _ _ _ _ _=>b
 | _=>[]
structure xh(P:UP)(w:U6)(K:TQ)(mg:Str->Option TY)(pg:Tb)(fn:String)(m:Str)(d:Df)(st:Xe)(N:List Str):Prop where
 no:pg.fns fn=TL
 sc:cE N d.ps (aj st)
 len:N.length=d.ps.length+d.nl
 bd: ∀(kV doc pm:TY)(an:Option Uj)(cdv ct:TY)(us:List TY),us.length=d.ps.length->Wc (U2 m (TU fn) (bD st) (aG st) (aj st) .none kV doc pm an cdv ct) ⟨us,[]⟩=pure (d.ps.zip us)
 body: ∀(base:Vx)(fa:Uj)(cdv:TY)(A:Vk)(outer:List Env)(s:Ua)(H:Hp)(E:XK)(k:Nat),tV (gj mV P w K mg base N (TU fn) (aj st) fa cdv A outer s H E).lT pg k (aG st) d.body
def RU(K:TQ)(C:Uj)(m:Str)(fn:String)(st:Xe):Prop:= ∃ fa fd,vI K m (TU fn) st fa fd/\Meth K C m fa
section
variable{P:UP}{w:U6}{K:TQ}{mg:Str->Option TY}{pg:Tb}
theorem xh.on{fn:String}{m:Str}{ps:List Str}{n:Nat}{b:MS}{st:Xe}{N:List Str}(no:pg.fns fn=TL)(S:cE N ps (aj st))(hl:N.length=ps.length+n)
  (hb: ∀(kV doc pm:TY)(an:Option Uj)(cdv ct:TY)(us:List TY),us.length=ps.length->Wc (U2 m (TU fn) (bD st) (aG st) (aj st) .none kV doc pm an cdv ct) ⟨us,[]⟩=pure (ps.zip us))
  (h:N.Nodup-> ∀(base:Vx)(fa:Uj)(cdv:TY)(A:Vk)(outer:List Env)(s:Ua)(H:Hp)(E:XK)(k:Nat),tV (gj mV P w K mg base N (TU fn) (aj st) fa cdv A outer s H E).lT pg k (aG st) b):xh P w K mg pg fn m ⟨ps,n,b⟩ st N :=
 ⟨no,S,hl,hb,h S.nd⟩
theorem OB{C f:Uj}{m:Str}{fn:String}{st:Xe}{oc:TY}{od an:Option Uj}{osl:Array (Option TY)}{kV doc pm cdv ct:TY}
  (a:UO K (.ref C) m=TK (TK (.ref f))) (i:YQ K (.ref f)=true) (l:K.lookup f=TK ⟨oc,od,.func (U2 m (TU fn) (bD st) (aG st) (aj st) .none kV doc pm an cdv ct),osl⟩) (c:XF K cdv (TU fn)=true) (k:Vt K (.ref f)=true):RU K C m fn st :=
 ⟨f,_,CB l c k,a,i,k⟩
theorem FP{mtT:List (String × String × Str × Df)}(hm:pg.qE=λf=>(mtT.find? λp=>p.1 == f).map (·.2))(h: ∀ p∈mtT,∃ st N,xh P w K mg pg p.1 p.2.2.1 p.2.2.2 st N/\ ∀ q,pg.adr p.2.1=TK q->RU K q.1 p.2.2.1 p.1 st): ∀ base fn c m d,pg.qE fn=TK (c,m,d)->AZ P w K mg base pg fn c m d:=λbase fn c m d e=>by
 rw[hm] at e;dsimp only at e;cases q:mtT.find? λp=>p.1 == fn with
 | none=>rw[q] at e;nomatch e
 | some p =>
  rw[q] at e
  obtain⟨st,N,g,a⟩:=h p (VE q)
  have:p.1=fn:=by simpa using W3 q
  obtain⟨p1,p2,p3,p4⟩:=p
  cases e
  subst this
  exact⟨g.no,st,N,a,g.sc,g.len,g.bd,g.body base⟩
theorem Ge{adT:List (String × Nat × List Str)}{clT:List (String × Nat × String)}(ha:pg.adr=λf=>(adT.find? λp=>p.1 == f).map (·.2))(hc:pg.cls=λf=>(clT.find? λp=>p.1 == f).map (·.2))
  (h1: ∀ p∈adT,yr K p.2.1/\ ∀ f∈p.2.2,gP K p.2.1 f) (h2: ∀ p∈clT,mg (TU p.1)=TK (.ref p.2.1)/\WC K p.2.1=true/\Vt K (.ref p.2.1)=true/\ ∃ c d l,pg.qE p.2.2=TK (c,("__init__" :Str),d)/\pg.adr c=TK (p.2.1,l)):L7 K mg pg:=by
 refine⟨λc q e=>?_,λx q e=>?_⟩
 . rw[ha] at e;dsimp only at e;cases z:adT.find? λp=>p.1 == c with
   | none=>rw[z] at e;nomatch e
   | some p =>
    rw[z] at e
    cases e
    exact h1 p (VE z)
 . rw[hc] at e;dsimp only at e;cases z:clT.find? λp=>p.1 == x with
   | none=>rw[z] at e;nomatch e
   | some p =>
    rw[z] at e
    cases e
    have:p.1=x:=by simpa using W3 z
    rw[<- this]
    exact h2 p (VE z)
end
section
variable{c:CF}{e:az}{h:PH}{w g:String}{f:Str}{mo mv:ME}{ma:MA}{x y v:PV}{vs:List PV}
def kz(c:CF)(w:String)(f:Str)(x:PV)(h:PH):RV PV:=(gv c w x h).bind (yK f)
theorem MN:bO w f mo c e h=(mo c e h).bind (kz c w f):=rfl
def vR(c:CF)(w:String)(f:Str)(g:String)(e:az)(ma:MA)(x:PV)(h:PH):RV PV:=(gv c w x h).bind (GZ f g x c e ma)
theorem Ll:fu w f g mo ma c e h=(mo c e h).bind (vR c w f g e ma):=rfl
noncomputable def yx(c:CF)(g:String)(x:PV)(vs:List PV)(h:PH):RV PV:=c g (x::vs) h
theorem Ed:yx c g x vs h=c g (x::vs) h:=rfl
def kf(c:CF)(w:String)(f:Str)(e:az)(y x:PV)(h:PH):RV Fl:=(gv c w x h).bind (nQ f y e)
def HI(c:CF)(w:String)(f:Str)(mo:ME)(e:az)(y:PV)(h:PH):RV Fl:=(mo c e h).bind (kf c w f e y)
theorem DX:oI w f mo mv c e h=(mv c e h).bind (HI c w f mo e):=rfl
theorem CW:HI c w f mo e y h=(mo c e h).bind (kf c w f e y):=rfl
def uD(c:CF)(w:String)(f:Str)(e:az)(x v y:PV)(h:PH):RV Fl:=(gv c w x h).bind (E3 f e v y)
def Aj(c:CF)(w:String)(f:Str)(mv:ME)(e:az)(x v:PV)(h:PH):RV Fl:=(mv c e h).bind (uD c w f e x v)
def HK(c:CF)(w:String)(f:Str)(mv:ME)(e:az)(x:PV)(h:PH):RV Fl:=(kz c w f x h).bind (Aj c w f mv e x)
theorem FZ:Jp w f mo mv c e h=(mo c e h).bind (HK c w f mv e):=rfl
theorem CH:HK c w f mv e x h=(kz c w f x h).bind (Aj c w f mv e x):=rfl
theorem BM:Aj c w f mv e x v h=(mv c e h).bind (uD c w f e x v):=rfl
end
section
variable{pg:Tb}{w g:String}{C n k:Nat}{l:List Str}{h:PH}{fs:List (Str × PV)}{f:Str}{v y:PV}{E:az}{ma:MA}{i j:Int}
theorem rJ(W:uW pg w C l)(e:h[n]?=TK (.obj C fs)):gv (run pg (k+1)) w (.ref n) h= .ok (n,C,fs) h:=by
 unfold gv;simp only[e,W.run,if_true]
theorem iB(W:uW pg w C l)(e:h[n]?=TK (.obj C fs))(z:fs.lookup f=TK v):kz (run pg (k+1)) w f (.ref n) h= .ok v h:=by
 unfold kz yK;rw[rJ W e,aF];simp only[z]
theorem rK(W:uW pg w C l)(e:h[n]?=TK (.obj C fs))(z:fs.lookup f=TL):vR (run pg (k+1)) w f g E ma (.ref n) h=(ma (run pg (k+1)) E h).bind (yx (run pg (k+1)) g (.ref n)):=by
 unfold vR GZ;rw[rJ W e,aF];simp only[z];rfl
theorem nT(W:uW pg w C l)(e:h[n]?=TK (.obj C fs))(z:fs.length < 1000):kf (run pg (k+1)) w f E y (.ref n) h= .ok (.nx E) (h.set n (.obj C (gI f y fs))):=by
 unfold kf nQ;rw[rJ W e,aF,if_pos z]
theorem Kh(W:uW pg w C l)(e:h[n]?=TK (.obj C fs))(z:fs.length < 1000):uD (run pg (k+1)) w f E (.ref n) (.int i) (.int j) h= .ok (.nx E) (h.set n (.obj C (gI f (.int (i+j)) fs))):=by
 unfold uD E3 nQ;rw[rJ W e,aF];simp only[if_pos z]
end
section
variable{c:CF}{e:az}{h:PH}{me:ME}{m:MF}{acc x y:Str}{v:PV}
theorem AH:sM m c e h=(m WH c e h).bind QN:=rfl
theorem Bz:hW acc c e h= .ok acc h:=rfl
theorem A9(z:(acc++x).length<=16777216):nV x m acc c e h=m (acc++x) c e h:=if_pos z
theorem AG:pB me m acc c e h=(me c e h).bind (N5 m acc c e):=rfl
theorem zT(q:OE v=TK y)(z:(acc++y).length<=16777216):N5 m acc c e v h=m (acc++y) c e h:=by
 unfold N5;have l:(acc++y).length=acc.length+y.length:=by show(acc.cps++y.cps).size=_;rw[Xp];rfl
 have z':y.length<=Ub:=by show y.length<=16777216;omega
 simp only[q];exact if_pos ⟨z',z⟩
theorem Cq(z:acc.length<=16777216):QN acc h= .ok (.str acc) h:=if_pos z
end
def Oy(K : TQ)(a : Uj) : It :=
  ⟨λi H => ∃ xs x, fA K H a xs /\ xs[i]? = TK x,
   λi H v H' => ∃ p x, H p = TL /\ v = .ref p /\ H' = upd H p (.tup [.int (i : Int), x]) /\ ∀ xs, fA K H a xs -> xs[i]? = TK x,
   λi H => ∃ xs, fA K H a xs /\ xs.length = i⟩
theorem BW{P:UP}{w:U6}{K:TQ}{els:List UR}{j:Nat}{pos:Pos}{e it a:Uj}(hei:e≠it)(hea:e≠a)(hai:a≠it) :
  Turn P w K (.Tuple els j pos) (Oy K a) [e,it] e (λi h=>(∃ old,IsEnum h e it i old)∧h.IsListIter it a i) where
 mem:=by simp
 obj:=λi h z b hb=>by
  obtain⟨⟨old,e1⟩,⟨o4,e4,_,d4⟩⟩:=z;simp only[UK,or_false,Uh] at hb;rcases hb with rfl | rfl
  . exact⟨_,e1,λv q=>nomatch q⟩
  . exact⟨_,e4,λv q=>by rw[d4] at q;nomatch q⟩
 keep:=λi h h' z kp=>by
  obtain⟨⟨old,e1⟩,z4⟩:=z;exact⟨⟨old,kp _ (by simp) _ e1⟩,z4.at λo q=>kp _ (by simp) _ q⟩
 item:=by
  intro X hP hw hK hc i pins s σ H E I hf z hg;subst hP hw hK;obtain⟨xs,x,s1,ex⟩:=hg;obtain⟨us,ru,pu,_⟩:=I.list s1;obtain⟨ux,eu,rx⟩:=ru.get ex;obtain⟨⟨old,e1⟩,hit⟩:=z;have hlt:i < us.toArray.size:=by simpa using(TR.mp eu).1
  refine wpAny_pyNext_enum_itemD (Draws.list (A:=X.A.in1) (show X.A.in1.handled=TL from I.ok.hd hc) it a hai us.toArray) e1 ⟨hit,pu.isList⟩ hlt hei (by simp[hei,hea]) λy h1 tk f1 f2 f3 f4 f5 f6=>⟨_,rfl,?_⟩
  have hy:y=ux:=by
   have h2:us.toArray[i]?=TK ux:=by simpa using eu
   rw[h2] at f1;cases f1;rfl
  subst hy;refine wpAny_letOwnedTupleGo_enum (s:={ s with heap:=h1,toks:=tk+1}) f2 λh2 g1 g2=>?_;have ex1:=g2.extBut;have elt:e < s.heap.objs.size:=Uk e1;have new:h2.get? s.heap.objs.size=TK { cls:= .type "tuple",data:= .seq #[.int i tk,y]}:=ex1 _ _ (VR elt) f4;have hn:H s.heap.objs.size=TL:=I.bx.fresh (T6 _);have I2:Inv X pins σ (upd H s.heap.objs.size (.tup [.int (i:Int),x])) { s with heap:=h2,toks:=tk+1}:=by
   refine kF (turned:=[e,it]) I (λb o nb q=>?_) (λb hb=>hf b hb) (T6 _) ?_
   . simp only[Uh,UK,or_false,not_or] at nb;exact ex1 _ _ nb.1 (f6 b o nb.1 nb.2 q)
   . exact⟨by show 2<=Ub;decide,[.int i tk,y],.cons ⟨tk,rfl⟩ (.cons rx .nil),_,new,rfl,_,rfl,rfl⟩
  refine⟨.ref s.heap.objs.size,upd H s.heap.objs.size (.tup [.int (i:Int),x]),I2,rfl,⟨_,x,hn,rfl,rfl,λxs' q=>?_⟩,?_,λb hb=>?_⟩
  . rw[I.tK q s1];exact ex
  . exact⟨⟨_,by simpa using g1⟩,f3.1.at λo q=>ex1 _ _ hei.symm q⟩
  . have hb0:=(hf b hb).1;have: ∃ o,s.heap.get? b=TK o:=by
     obtain⟨o4,e4,_⟩:=hit;simp only[UK,or_false,Uh] at hb;rcases hb with rfl | rfl
     . exact⟨_,e1⟩
     . exact⟨_,e4⟩
    obtain⟨o,eo⟩:=this;rw[av (UN (Uk eo))];exact hb0
 done:=by
  intro X hP hw hK hc i pins s σ H E I hf z hg;subst hP hw hK;obtain⟨xs,s1,he⟩:=hg;obtain⟨us,ru,pu,_⟩:=I.list s1;obtain⟨⟨old,e1⟩,hit⟩:=z;have ei:i=us.toArray.size:=by have:=ru.length;simp;omega
  rw[ei] at hit;refine wpAny_pyNext_enum_endD (Draws.list (A:=X.A.in1) (show X.A.in1.handled=TL from I.ok.hd hc) it a hai us.toArray) e1 ⟨hit,pu.isList⟩ λh1 kp=>⟨rfl,o6 (turned:=[e,it]) (t':=s.toks) I (λb o nb q=>?_) λb hb=>hf b hb⟩
  simp only[Uh,UK,or_false,not_or] at nb;exact kp b o nb.2 q
 self:=λA i s Q E z h=>by
  obtain⟨⟨old,e1⟩,_⟩:=z;exact wpAny_pyIter_enum e1 h
section
variable{X:Cx}{pg:Tb}{k:Nat}{a tg:UR}{ma:ME}{p pos fpos:Pos}{els:List UR}{j:Nat}{tpos:Pos}{g:MG}{ms:MS}{body:List Xe}
def P7(K:TQ)(ta:TA):TI:=fun σ H R=>ta σ H λvs H1=> ∃ a1 xs,vs=[.ref a1]/\fA K H1 a1 xs/\R (Oy K a1) H1
theorem JC{ta:TA}(hg:Gl X "enumerate")(hm:X.mg "enumerate" =TL)(ha:PA X [a] ta)(hs:UH [a] X.env=[(false,Vl a X.env)]) :
  PI X (.Tuple els j tpos) (.Call (.Name "enumerate" p) [a] [] pos) (P7 X.K ta):=by
 intro pins s σ H R I h;refine Call_ (gO I hg hm boot_enumerate (U9 (eF (ha pos pins s σ H _ I h) λus s1 ⟨vs,H1,I1,r1,a1,xs,e,q1,q⟩=>?_) (by rw[hs];rfl) (by rfl)));subst e;cases r1 with
 | cons ra rr =>
  cases rr
  cases ra
  obtain⟨u1,_,p1,_⟩:=I1.list q1
  refine call_enumerate_list p1.isList λh' Z W hz kp=>?_
  have lt1:a1 < s1.heap.objs.size:=by obtain⟨_,e,_⟩:=p1.isList;exact Uk e
  refine wpAny_pyIter_enum Z ?_
  refine⟨s1.heap.objs.size+1,[s1.heap.objs.size+1,s1.heap.objs.size],_,_,H1,rfl,I1.kept (t':=s1.toks) kp,BW (VR (Xs _)) (VR (aaw lt1)) (UN lt1),⟨⟨_,Z⟩,W⟩,λc hc=>?_,q⟩
  have hle:s1.heap.objs.size<=c:=by
   simp only[Uh,UK,or_false] at hc;rcases hc with rfl | rfl<;>omega
  exact I1.zb hle (I1.bx.fresh hle)
noncomputable def qY(xs:List PV):List PV:=xs.zipIdx.map λq=> .tup [.int (q.2:Int),q.1]
theorem H9{xs:List PV}{i:Nat}:(qY xs)[i]?=(xs[i]?).map λx=> .tup [.int (i:Int),x]:=by
 unfold qY;rw[U1,List.getElem?_zipIdx];cases xs[i]?<;>simp
theorem DM{xs:List PV}:(qY xs).length=xs.length:=by simp[qY]
def fB(n:Nat)(xs:List PV)(step:PV->az->PH->RV Fl):List PV->az->PH->RV Fl
 | [],e,h=>if bp h n=TK xs then .ok (.nx e) h else .no
 | x::r,e,h=>if bp h n=TK xs then(step x e h).bind (λf h1=>match f with
   | .nx e1=>fB n xs step r e1 h1
   | .ct e1=>fB n xs step r e1 h1
   | .bk e1=> .ok (.nx e1) h1
   | .rt v=> .ok (.rt v) h1) else .no
def Ni(g:MG)(b:MS)(c:CF)(e:az)(n:Nat)(h:PH):Option (List PV)->RV Fl
 | some xs=>fB n xs (bc g b c) (qY xs) e h
 | none=> .no
def OI(g:MG)(b:MS)(c:CF)(e:az)(x:PV)(h:PH):RV Fl:=match x with
 | .ref n=>Ni g b c e n h (bp h n)
 | _=> .no
def Au(a:ME)(g:MG)(b:MS):MS:=λc e h=>(a c e h).bind (OI g b c e)
theorem GR(hn:Gl X "enumerate")(ha:JE X pg k a ma)(hg:JG X pg k (.Tuple els j tpos) g)(hb:tV X pg k body ms)(hp:aaC (Uu X.prog X.w) X.A X.env X.xe)(hs1:noStar a=true:=by rfl)(hs: ∀ x,UX (.Call (.Name "enumerate" p) [a] [] pos) X.env x=pure x:=by intro _;rfl):JS X pg k (.For (.Tuple els j tpos) (.Call (.Name "enumerate" p) [a] [] pos) body [] fpos) (Au ma g ms):=⟨λA=>by
 obtain⟨_,q1,s1⟩:=ha.h A;obtain⟨_,q2,s2⟩:=hg.h A;obtain⟨_,q3,s3⟩:=hb.h A;refine⟨_,CL hp A.calm ⟨JC hn (A.blt _ (by decide +kernel)) (qk q1 rF hs1).h (by rw[a9 hs1];rfl)⟩ q2 q3 hs,fun ρ h H e σ D f h' s r q P=>?_⟩;obtain⟨x,h1,e1,q⟩:=bind_eq.mp q;refine s1 ρ h H e σ _ x h1 s r e1 λx' ρ1 H1 g1 z1 r1=>?_;cases x with
 | ref n =>
  rw[OI] at q
  cases en:bp h1 n with
  | none=>rw[en] at q;nomatch q
  | some xs =>
   rw[en,Ni] at q
   obtain⟨a0,vs,rfl,ea,zz,rr⟩:=z1.sq en r1
   refine⟨a0,vs,rfl,zz,?_⟩
   have W: ∀ i ρ2 h2 H2,Gr ρ1 H1 ρ2 H2->cB X.K ρ2 h2 H2->bp h2 n=TK xs->(∀ y,(qY xs)[i]?=TK y->(Oy X.K a0).go i H2/\ ∀ v H',(Oy X.K a0).Ly i H2 v H'-> ∃ ρ',Gr ρ2 H2 ρ' H'/\cB X.K ρ' h2 H'/\rel X.K ρ' H' y v)/\(i=(qY xs).length->(Oy X.K a0).stop i H2):=λi ρ2 h2 H2 g s hl=>by
    have ea2:=g.pre _ _ ea;obtain⟨a',vs2,e3,e4,z2,r2⟩:=s.sq hl (show rel X.K ρ2 H2 (.ref n) (.ref a0) by rw[rel];exact⟨a0,ea2,rfl⟩);cases e3;refine⟨λy ey=>?_,λei=>⟨vs2,z2,by rw[ei,DM,r2.len]⟩⟩;rw[H9] at ey;cases ex:xs[i]? with
    | none=>rw[ex] at ey;nomatch ey
    | some x =>
     rw[ex] at ey
     cases ey
     obtain⟨v,d1,d2⟩:=r2.get ex
     refine⟨⟨vs2,v,z2,d1⟩,?_⟩
     rintro v' H' ⟨p,u',hp,rfl,rfl,k1⟩
     have:=k1 vs2 z2
     rw[d1] at this;cases this
     have gn:Gr ρ2 H2 ρ2 (upd H2 p (.tup [.int (i:Int),v])):=Gr.pR hp
     refine ⟨ρ2,gn,s.tup hp,?_⟩
     rw [rel]
     exact ⟨p,_,rfl,aI,ar.mpr ⟨_,_,rfl,by rw [rel],ai.one (rel.gr gn _ _ d2)⟩⟩
   refine ⟨λi m σ' H'=> ∃ ρ' h2 e',Gr ρ1 H1 ρ' H'∧cB X.K ρ' h2 H'∧dv X.K ρ' H' e' σ'∧i<=(qY xs).length∧m=(qY xs).length - i∧fB n xs (bc g ms (run pg k)) ((qY xs).drop i) e' h2= .ok f h',⟨_, ρ1,h1,e,.refl _ _,z1,r.gr g1,Vp _,rfl,q⟩,?_⟩
   rintro i m σ2 H2 ⟨ρ2,h2,e2,g2,z2,r2,hi,rfl,q2⟩
   cases hx:(qY xs)[i]? with
   | none =>
    have hl:(qY xs).length<=i:=WU.mp hx
    rw[VA hl,fB] at q2
    split at q2
    . rename_i hf;cases q2;exact .inl ⟨(W i ρ2 _ H2 g2 z2 hf).2 (by omega),P σ2 ρ2 H2 (g1.trans g2) z2 r2⟩
    . nomatch q2
   | some x =>
    have hlt:i < (qY xs).length:=(TR.mp hx).1
    have hd:(qY xs).drop i=x::(qY xs).drop (i+1):=by
     rw[VD hlt,(TR.mp hx).2]
    rw[hd,fB] at q2
    split at q2
    . rename_i hf;obtain⟨go,yl⟩:=(W i ρ2 _ H2 g2 z2 hf).1 x hx;obtain⟨f3,h3,e3,q3⟩:=bind_eq.mp q2;obtain ⟨e4,h4,e5,q4⟩:=bind_eq.mp e3;refine .inr ⟨go,fun σ' H'=> ∃ ρ' h2 e',Gr ρ1 H1 ρ' H'∧cB X.K ρ' h2 H'∧dv X.K ρ' H' e' σ'∧fB n xs (bc g ms (run pg k)) ((qY xs).drop (i+1)) e' h2= .ok f h',?_,?_⟩
      . rintro σ' H' ⟨ρ',h2,e',a1,a2,a3,a4⟩;exact ⟨(qY xs).length - (i+1),by omega, ρ',h2,e',a1,a2,a3,hlt,rfl,a4⟩
      . intro v H3 hy;obtain ⟨ρ3,g3,z3,r3⟩:=yl v H3 hy;refine s2 ρ3 h2 H3 e2 σ2 _ x v e4 h4 z3 (r2.gr g3) r3 e5 fun σ4 ρ4 H4 g4 z4 r4=>?_;have gg:=(g2.trans g3).trans g4;refine s3 ρ4 h4 H4 e4 σ4 _ f3 h3 z4 r4 q4 ?_;cases f3 with
        | nx e6=>exact fun σ5 ρ5 H5 g5 z5 r5=>⟨ρ5,h3,e6,gg.trans g5,z5,r5,q3⟩
        | ct e6=>exact fun σ5 ρ5 H5 g5 z5 r5=>⟨ρ5,h3,e6,gg.trans g5,z5,r5,q3⟩
        | bk e6=>cases q3;exact fC.gr P (g1.trans gg)
        | rt v=>cases q3;exact dh.gr P (g1.trans gg)
    . nomatch q2
 | _=>nomatch q⟩
end
section
variable{c:CF}{e:az}{h h1:PH}{a:ME}{g:MG}{b:MS}{n:Nat}{x:PV}{xs r:List PV}{step:PV->az->PH->RV Fl}{e1:az}
theorem Gy:Au a g b c e h=(a c e h).bind (OI g b c e):=rfl
theorem E5(l:h[n]?=TK (.lst xs)):OI g b c e (.ref n) h=fB n xs (bc g b c) (qY xs) e h:=by
 have:bp h n=TK xs:=by unfold bp;rw[l]
 rw[OI,this,Ni]
theorem zA(l:h[n]?=TK (.lst xs)):fB n xs step [] e h= .ok (.nx e) h:=by
 have:bp h n=TK xs:=by unfold bp;rw[l]
 rw[fB,if_pos this]
theorem zg(l:h[n]?=TK (.lst xs))(q:step x e h= .ok (.nx e1) h1):fB n xs step (x::r) e h=fB n xs step r e1 h1:=by
 have:bp h n=TK xs:=by unfold bp;rw[l]
 rw[fB,if_pos this,q];rfl
end
end P3
end
section
open PySem PySem.W PyProof.Rows
set_option maxHeartbeats 5000000
namespace K04
open PySem L2 P3 PyProof.Rows
noncomputable def top(i:Nat):Stmt:=PySem.Challenge.pw_leastrecord_k04_written_and_read.main.body.getD i (.Pass ⟨0,0,0,0⟩)
def fR(i j:Nat):Xe:=(Gd (top i)).getD j (.Pass ⟨0,0,0,0⟩)
noncomputable def ba:List (Key × PV):=[(.inr "let",(.ktup [(.str "pocket"),(.str "sum")])),(.inr "leap",(.ktup [(.str "target"),(.str "sum")])),(.inr "get",(.ktup [(.str "pocket"),(.str "box")])),(.inr "put",(.ktup [(.str "box"),(.str "sum")])),(.inr "take",(.ktup [(.str "lock")])),(.inr "free",(.ktup [(.str "lock")])),(.inr "send",(.ktup [(.str "lane"),(.str "sum")])),(.inr "fetch",(.ktup [(.str "pocket"),(.str "lane")])),(.inr "say",(.ktup [(.str "door"),(.str "sum")])),(.inr "clock",(.ktup [(.str "pocket")])),(.inr "lot",(.ktup [(.str "pocket"),(.str "chances")])),(.inr "hear",(.ktup [(.str "pocket"),(.str "door")]))]
noncomputable def bf:List (Key × PV):=[(.inr "add",(.int 2)),(.inr "sub",(.int 2)),(.inr "mul",(.int 2)),(.inr "less",(.int 2)),(.inr "same",(.int 2)),(.inr "not",(.int 1))]
def qR:MS :=
  (aQ (HH (aq hI (aa 0) (eC (.ktup [(.str "box"),(.str "lock"),(.str "lane"),(.str "door"),(.str "hand")]))) (HH (rn false ba (aa 0)) (rn false bf (aa 0)))))
def iR:Df:=⟨["text"],0,qR⟩
def iZ:MS :=
  (ah (cX (C7 (mF (aX (eB cm (ab (aa 0) (ab (eC (.ty "str")) af))))) (mF (aX (kE He He (eI 1) (eB cN (a1 (aa 0))) (eI 8))))) (aQ (eC (.bl false))) c8)
  (aQ (ic (eB uU (ab (jh 1 (ef (aa 0)) (gN 1) aV (aq hI (aa 1) (eS "abcdefghijklmnopqrstuvwxyz"))) af)) (G5 (ag "is_word" (a1 (aa 0)))))))
def eQ:Df:=⟨["thing"],0,iZ⟩
def qX:MS :=
  (ah (ax (jh 2 (ef (eX 0 0)) (gT 2 (ao (gN 4) (ao (gN 5) bE))) aV (sM (nV "box " (pB (aa 4) (nV " " (pB (aa 5) hW)))))) (gN 1))
  (ah (aC (eM cD aJ (aa 1) (ab (jh 1 (ef (eX 0 1)) (gN 4) aV (sM (nV "lock " (pB (aa 4) hW)))) af)))
  (ah (aC (eM cD aJ (aa 1) (ab (jh 1 (ef (eX 0 2)) (gN 4) aV (sM (nV "lane " (pB (aa 4) hW)))) af)))
  (ah (aC (eM cD aJ (aa 1) (ab (jh 1 (ef (eX 0 3)) (gN 4) aV (sM (nV "door " (pB (aa 4) hW)))) af)))
  (ah (d6 (ef (eX 0 4)) (gT 2 (ao (gN 2) (ao (gN 3) bE))) (ah (aC (eM au aJ (aa 1) (ab (sM (nV "hand " (pB (aa 2) hW))) af)))
  (aC (eM cD aJ (aa 1) (ab (jh 1 (ef (aa 3)) (gN 4) aV (ag "shown_row" (a1 (aa 4)))) af)))))
  (aQ (aa 1)))))))
def rL:Df:=⟨["program"],3,qX⟩
def iJ:MS :=
  (ah (ax (ay (a1 (eX 0 0))) (gN 1))
  (ah (d6 (Dz (nR ba (eX 0 0)) (oZ (aa 0) (cH (eI 1)) cG)) (gT 2 (ao (gN 2) (ao (gN 3) bE))) (aC (eM au aJ (aa 1) (ab (Na (mQ (aa 2) (eS "sum")) (ag "shown_sum" (a1 (aa 3))) (eB cU (a1 (aa 3)))) af))))
  (aQ (eM jd fO (eS " ") (a1 (aa 1))))))
def iu:Df:=⟨["row"],3,iJ⟩
def fH:MS :=
  (ah (cX (C7 (mQ (eX 0 0) (eS "num")) (mQ (eX 0 0) (eS "of"))) (aQ (eB cU (a1 (eX 0 1)))) c8)
  (aQ (eM jd fO (eS " ") (ab (aq aA (ay (a1 (eX 0 0))) (jh 1 (ef (oZ (aa 0) (cH (eI 1)) cG)) (gN 1) aV (ag "shown_sum" (a1 (aa 1))))) af))))
def dj:Df:=⟨["tree"],0,fH⟩
def vj:MS :=
  (ah (ax (ag "Draft" af) (gN 1))
  (ah (Au (aa 0) (gT 2 (ao (gN 2) (ao (gN 3) bE))) (aC (ag "read_line" (ab (aa 1) (ab (ag "Line" (a2 (aa 2) (aa 3))) af)))))
  (ah (cX (aX (aq qj (eB cN (ab (bO "@Draft" "rows" (aa 1)) af)) (eI 0))) jx c8)
  (ah (d6 (ef (bO "@Draft" "leaps" (aa 1))) (gT 3 (ao (gN 2) (ao (gN 4) (ao (gN 5) bE)))) (cX (aX (aq An (aa 4) (eB cN (ab (aq bu (bO "@Draft" "rows" (aa 1)) (aa 5)) af)))) jx c8))
  (aQ (fu "@Draft" "finished" "Draft.finished" (aa 1) af))))))
def ve:Df:=⟨["lines"],5,vj⟩
def iO:MS :=
  (ah (ax (fu "@Line" "coming" "Line.coming" (aa 1) af) (gN 2))
  (ah (cX (aX (aq hI (aa 2) (eC (.ktup [(.str "box"),(.str "lock"),(.str "lane"),(.str "door"),(.str "hand")])))) (ah (aC (fu "@Line" "go_over" "Line.go_over" (aa 1) (ab (fu "@Draft" "may_tell" "Draft.may_tell" (aa 0) (a1 (aa 2))) af)))
  (aC (ag "read_thing" (a3 (aa 0) (aa 1) (aa 2))))) (ah (aC (fu "@Line" "go_over" "Line.go_over" (aa 1) (ab (ic (rn false ba (aa 2)) (fu "@Draft" "may_have_row" "Draft.may_have_row" (aa 0) af)) af)))
  (aC (ag "read_row" (a3 (aa 0) (aa 1) (aa 2))))))
  (aC (fu "@Line" "close" "Line.close" (aa 1) af))))
def dQ:Df:=⟨["draft", "line"],1,iO⟩
def eK:MS :=
  (ah (ax (fu "@Line" "coming" "Line.coming" (aa 1) af) (gN 3))
  (ah (aC (fu "@Line" "go_over" "Line.go_over" (aa 1) (ab (ic (ag "is_name" (a1 (aa 3))) (G5 (fu "@Draft" "has_name" "Draft.has_name" (aa 0) (a1 (aa 3))))) af)))
  (ah (aC (fu "@Draft" "tell" "Draft.tell" (aa 0) (a2 (aa 2) (aa 3))))
  (cX (mQ (aa 2) (eS "box")) (aC (eM au aJ (bO "@Draft" "worths" (aa 0)) (ab (ag "read_number" (a3 (aa 1) (eI 0) (eI 999))) af))) c8))))
def cL:Df:=⟨["draft", "line", "sort"],1,eK⟩
def gR:MS :=
  (ah (ax (ay (a1 (aa 2))) (gN 3))
  (ah (d6 (ef (nR ba (aa 2))) (gN 4) (aC (eM au aJ (aa 3) (ab (ag "read_part" (a3 (aa 0) (aa 1) (aa 4))) af))))
  (ah (aC (eM au aJ (aq bu (bO "@Draft" "rows" (aa 0)) (Eg CS (eI 1))) (ab (eB bZ (a1 (aa 3))) af)))
  (cX (mQ (aa 2) (eS "leap")) (aC (eM au aJ (bO "@Draft" "leaps" (aa 0)) (ab (bA (ab (bO "@Line" "row" (aa 1)) (ab (eX 3 1) (ab (aq sQ (eB cN (ab (bO "@Draft" "rows" (aa 0)) af)) (eI 1)) af)))) af))) c8))))
def jv:Df:=⟨["draft", "line", "word"],2,gR⟩
def de:MS :=
  (ah (cX (mQ (aa 2) (eS "sum")) (aQ (ag "read_sum" (ab (aa 1) (ab (bO "@Line" "place" (aa 1)) (a1 (eI 1)))))) c8)
  (ah (cX (mQ (aa 2) (eS "target")) (aQ (ag "read_number" (a3 (aa 1) (eI 0) (eI 30)))) c8)
  (ah (cX (mQ (aa 2) (eS "chances")) (aQ (ag "read_number" (a3 (aa 1) (eI 2) (eI 1000)))) c8)
  (ah (ax (fu "@Line" "coming" "Line.coming" (aa 1) af) (gN 3))
  (ah (aC (fu "@Line" "go_over" "Line.go_over" (aa 1) (ab (Na (mQ (aa 2) (eS "pocket")) (ag "is_name" (a1 (aa 3))) (aq hI (aa 3) (aq bu (bO "@Draft" "names" (aa 0)) (aa 2)))) af)))
  (aQ (aa 3)))))))
def bV:Df:=⟨["draft", "line", "part"],1,de⟩
def jj:MS :=
  (ah (ax (fu "@Line" "coming" "Line.coming" (aa 0) af) (gN 3))
  (ah (aC (fu "@Line" "go_over" "Line.go_over" (aa 0) (ab (ag "writes_number" (a3 (aa 3) (aa 1) (aa 2))) af)))
  (aQ (eB lU (a1 (aa 3))))))
def dG:Df:=⟨["line", "least", "most"],1,jj⟩
def gY:MS :=
  (ah (cX (C7 (mQ (aa 0) (eS "")) (C7 (aX (aq An (eB cN (a1 (aa 0))) (eB cN (ab (eB cU (a1 (aa 2))) af)))) (mF (aX (eB uU (ab (jh 1 (ef (aa 0)) (gN 3) aV (aq hI (aa 3) (eS "0123456789"))) af)))))) (aQ (eC (.bl false))) c8)
  (aQ (ic (aq qj (eB cU (ab (eB lU (a1 (aa 0))) af)) (aa 0)) (kE He He (aa 1) (eB lU (a1 (aa 0))) (aa 2)))))
def c6:Df:=⟨["word", "least", "most"],0,gY⟩
def vW:MS :=
  (ah (ax (fu "@Line" "coming" "Line.coming" (aa 0) af) (gN 3))
  (ah (ax (ic (aq FT (aq sQ (bO "@Line" "place" (aa 0)) (aa 1)) (eI 12)) (aq He (aa 2) (eI 5))) (gN 4))
  (ah (aC (fu "@Line" "go_over" "Line.go_over" (aa 0) (ab (ic (aa 4) (HH (rn false bf (aa 3)) (HH (ag "is_name" (a1 (aa 3))) (ag "writes_number" (a3 (aa 3) (eI 0) (eI 999)))))) af)))
  (ah (cX (aX (ag "is_name" (a1 (aa 3)))) (aQ (bA (a2 (eS "of") (aa 3)))) c8)
  (ah (cX (aX (rn true bf (aa 3))) (aQ (bA (ab (eS "num") (ab (eB lU (a1 (aa 3))) af)))) c8)
  (ah (ax (ay (a1 (aa 3))) (gN 5))
  (ah (d6 (eO (ab (nR bf (aa 3)) af)) (gN 6) (aC (eM au aJ (aa 5) (ab (ag "read_sum" (ab (aa 0) (ab (aa 1) (ab (aq aA (aa 2) (eI 1)) af)))) af))))
  (aQ (eB bZ (a1 (aa 5)))))))))))
def jz:Df:=⟨["line", "start", "deep"],4,vW⟩
def dP:MS :=
  (ah (ax (Na (aX (aq An (eB cN (a1 (aa 0))) (eI 0))) (aq bu (aa 0) (aq g9 (aa 1) (eB cN (a1 (aa 0))))) (eI 0)) (gN 3))
  (ah (ax (aa 3) (gN 4))
  (ah (cX (aX (aq Q6 (aa 3) (aq DF (eI 10) (eI 18)))) (ah (d6 (eO (ab (aq g9 (aq jB (aa 1) (eB cN (a1 (aa 0)))) (eI 60)) af)) (gN 5) (ax (aq jB (aa 4) (eI 1000003)) (gN 4)))
  (cX (aX (aq An (aa 4) (eI 0))) (aQ (aq g9 (aq g9 (aq jB (aa 4) (eI 2)) (eI 500009)) (aa 2))) c8)) c8)
  (ah (ax (aq aA (aq aA (aq g9 (aa 3) (eI 1000003)) (aq oP (aq oP (eI 31) (aa 1)) (aa 1))) (eI 1)) (gN 6))
  (aQ (aq g9 (aq g9 (aq oP (aq g9 (aq oP (aa 6) (eI 48271)) (eI 999983)) (eI 7919)) (eI 524287)) (aa 2)))))))
def cI:Df:=⟨["_law_script", "_law_k", "_law_many"],4,dP⟩
def lL:MS :=
  (ah (rO pO (aa 0) (eS "k") (aq aA (aq bu (aa 0) (eS "k")) (eI 1)))
  (aQ (ag "_law_draw" (ab (aq bu (aa 0) (eS "script")) (ab (aq bu (aa 0) (eS "k")) (a1 (aa 1)))))))
def fF:Df:=⟨["_law_state", "_law_many"],0,lL⟩
def jX:MS :=
  (ah (ax (ay (ab (eS "a") (ab (eS "ab") (ab (eS "abc") (ab (eS "lets") (ab (eS "leaper") (ab (eS "getit") (ab (eS "puts") (ab (eS "taken") (ab (eS "freed") (a3 (eS "sender") (eS "fetched") (eS "says")))))))))))) (gN 1))
  (ah (ax (aq aA (aa 1) (ay (ab (eS "clocks") (ab (eS "lots") (ab (eS "hearth") (ab (eS "added") (ab (eS "subway") (ab (eS "mulled") (a3 (eS "lesser") (eS "samey") (eS "nothing")))))))))) (gN 1))
  (ah (ax (aq aA (aa 1) (ay (ab (eS "boxes") (ab (eS "locker") (ab (eS "lanes") (ab (eS "doors") (ab (eS "hands") (ab (eS "b") (a3 (eS "zzzzzzzz") (eS "of") (eS "num")))))))))) (gN 1))
  (ah (ax (ag "_law_pick" (ab (aa 0) (ab (eB cN (a1 (aa 1))) af))) (gN 2))
  (aQ (aq aA (oZ (aa 1) (cH (aa 2)) cG) (oZ (aa 1) cG (cH (aa 2)))))))))
def eE:Df:=⟨["_law_state"],2,jX⟩
def bM:MS :=
  (ah (ax (ag "_law_pick" (a2 (aa 0) (eI 9))) (gN 3))
  (ah (cX (xS (aX (aq FT (aa 2) (eI 5))) (xS (aX (aq An (aa 3) (eI 2))) (aX (aq An (aq bu (aa 0) (eS "left")) (eI 1))))) (ah (rO pO (aa 0) (eS "left") (aq sQ (aq bu (aa 0) (eS "left")) (eI 2)))
  (ah (ax (aq bu (ay (ab (eS "add") (ab (eS "sub") (a3 (eS "mul") (eS "less") (eS "same"))))) (ag "_law_pick" (a2 (aa 0) (eI 5)))) (gN 4))
  (ah (ax (ag "_law_sum_in" (ab (aa 0) (ab (aa 1) (ab (aq aA (aa 2) (eI 1)) af)))) (gN 5))
  (aQ (bA (ab (aa 4) (ab (aa 5) (ab (ag "_law_sum_in" (ab (aa 0) (ab (aa 1) (ab (aq aA (aa 2) (eI 1)) af)))) af)))))))) c8)
  (ah (cX (xS (aX (aq FT (aa 2) (eI 5))) (xS (mQ (aa 3) (eI 2)) (aX (aq An (aq bu (aa 0) (eS "left")) (eI 0))))) (ah (rO pO (aa 0) (eS "left") (aq sQ (aq bu (aa 0) (eS "left")) (eI 1)))
  (aQ (bA (ab (eS "not") (ab (ag "_law_sum_in" (ab (aa 0) (ab (aa 1) (ab (aq aA (aa 2) (eI 1)) af)))) af))))) c8)
  (ah (cX (aX (aq qj (aq g9 (aa 3) (eI 2)) (eI 0))) (aQ (bA (ab (eS "num") (ab (aq bu (ay (ab (eI 0) (ab (eI 1) (ab (eI 2) (ab (eI 999) (ab (ag "_law_pick" (a2 (aa 0) (eI 1000))) af)))))) (ag "_law_pick" (a2 (aa 0) (eI 5)))) af)))) c8)
  (aQ (bA (ab (eS "of") (ab (aq bu (aa 1) (ag "_law_pick" (ab (aa 0) (ab (eB cN (a1 (aa 1))) af)))) af))))))))
def br:Df:=⟨["_law_state", "_law_pockets", "_law_deep"],3,bM⟩
def om:MS :=
  (ah (rO pO (aa 0) (eS "left") (aq bu (ay (ab (eI 0) (a3 (eI 2) (eI 5) (eI 11)))) (ag "_law_pick" (a2 (aa 0) (eI 4)))))
  (aQ (ag "_law_sum_in" (a3 (aa 0) (aa 1) (eI 1)))))
def gM:Df:=⟨["_law_state", "_law_pockets"],0,om⟩
def oU:MS :=
  (ah (ax (ay (ab (eS "let") (ab (eS "let") (a3 (eS "leap") (eS "clock") (eS "lot"))))) (gN 4))
  (ah (d6 (ef (ay (ab (bA (ab (eS "box") (ab (ay (a2 (eS "get") (eS "put"))) af))) (ab (bA (ab (eS "lock") (ab (ay (a2 (eS "take") (eS "free"))) af))) (ab (bA (ab (eS "lane") (ab (ay (a2 (eS "send") (eS "fetch"))) af))) af))))) (gT 2 (ao (gN 5) (ao (gN 6) bE))) (cX (aX (aq pD (aq bu (aa 1) (aa 5)) (ay af))) (ax (aq aA (aq aA (aa 4) (aa 6)) (aa 6)) (gN 4)) c8))
  (ah (cX (aX (aq pD (aq bu (aa 1) (eS "door")) (ay af))) (ax (aq aA (aa 4) (ay (a3 (eS "say") (eS "hear") (eS "say")))) (gN 4)) c8)
  (ah (ax (aq bu (aa 4) (ag "_law_pick" (ab (aa 0) (ab (eB cN (a1 (aa 4))) af)))) (gN 7))
  (ah (ax (aq bu (aa 2) (ag "_law_pick" (ab (aa 0) (ab (eB cN (a1 (aa 2))) af)))) (gN 8))
  (ah (ax (oX (bQ (eS "get") (eS "box") (bQ (eS "put") (eS "box") (bQ (eS "take") (eS "lock") (bQ (eS "free") (eS "lock") (bQ (eS "send") (eS "lane") (bQ (eS "fetch") (eS "lane") ue))))))) (gN 9))
  (ah (aC (eM fD jk (aa 9) (ab (oX (bQ (eS "say") (eS "door") (bQ (eS "hear") (eS "door") ue))) af)))
  (ah (cX (mQ (aa 7) (eS "let")) (aQ (bA (ab (eS "let") (ab (aa 8) (ab (ag "_law_sum" (a2 (aa 0) (aa 2))) af))))) c8)
  (ah (cX (mQ (aa 7) (eS "leap")) (aQ (bA (ab (eS "leap") (ab (ag "_law_pick" (ab (aa 0) (ab (aq aA (aa 3) (eI 1)) af))) (ab (ag "_law_sum" (a2 (aa 0) (aa 2))) af))))) c8)
  (ah (cX (mQ (aa 7) (eS "clock")) (aQ (bA (a2 (eS "clock") (aa 8)))) c8)
  (ah (cX (mQ (aa 7) (eS "lot")) (aQ (bA (ab (eS "lot") (ab (aa 8) (ab (aq bu (ay (ab (eI 2) (ab (eI 3) (ab (eI 1000) (ab (aq aA (eI 2) (ag "_law_pick" (a2 (aa 0) (eI 999)))) af))))) (ag "_law_pick" (a2 (aa 0) (eI 4)))) af))))) c8)
  (ah (ax (aq bu (aa 1) (aq bu (aa 9) (aa 7))) (gN 6))
  (ah (ax (aq bu (aa 6) (ag "_law_pick" (ab (aa 0) (ab (eB cN (a1 (aa 6))) af)))) (gN 10))
  (ah (cX (aX (aq hI (aa 7) (bA (a2 (eS "take") (eS "free"))))) (aQ (bA (a2 (aa 7) (aa 10)))) c8)
  (ah (cX (aX (aq hI (aa 7) (bA (a3 (eS "get") (eS "fetch") (eS "hear"))))) (aQ (bA (a3 (aa 7) (aa 8) (aa 10)))) c8)
  (aQ (bA (ab (aa 7) (ab (aa 10) (ab (ag "_law_sum" (a2 (aa 0) (aa 2))) af))))))))))))))))))))
def gC:Df:=⟨["_law_state", "_law_named", "_law_pockets", "_law_many"],7,oU⟩
def iq:MS :=
  (ah (ax (ag "_law_names" (a1 (aa 0))) (gN 1))
  (ah (ax nJ (gN 2))
  (ah (d6 (ef (ay (ab (eS "box") (ab (eS "lock") (a3 (eS "lane") (eS "door") (eS "hand")))))) (gN 3) (ah (ax (ag "_law_pick" (a2 (aa 0) (eI 5))) (gN 4))
  (ah (cX (mQ (aa 3) (eS "hand")) (ax (aq aA (eI 1) (aq g9 (aa 4) (eI 4))) (gN 4)) c8)
  (ah (rO pO (aa 2) (aa 3) (oZ (aa 1) cG (cH (aa 4))))
  (ax (oZ (aa 1) (cH (aa 4)) cG) (gN 1))))))
  (ah (ax (aq aA (aq aA (aq aA (oZ (aa 1) cG (cH (eI 2))) (oZ (aq bu (aa 2) (eS "box")) cG (cH (eI 1)))) (oZ (aq bu (aa 2) (eS "hand")) cG (cH (eI 1)))) (ay (ab (aq bu (ay (a3 (eS "a") (eS "ab") (eS "boxes"))) (ag "_law_pick" (a2 (aa 0) (eI 3)))) af))) (gN 5))
  (ah (ax (ay af) (gN 6))
  (ah (d6 (ef (aq bu (aa 2) (eS "hand"))) (gN 7) (ah (ax (aq bu (ay (ab (ag "_law_pick" (a2 (aa 0) (eI 4))) (ab (aq aA (eI 3) (ag "_law_pick" (a2 (aa 0) (eI 6)))) (ab (aq aA (eI 3) (ag "_law_pick" (a2 (aa 0) (eI 6)))) (a1 (eI 30)))))) (ag "_law_pick" (a2 (aa 0) (eI 4)))) (gN 4))
  (aC (eM au aJ (aa 6) (ab (bA (ab (aa 7) (ab (eB bZ (ab (jh 1 (eO (a1 (aa 4))) (gN 9) aV (ag "_law_row" (ab (aa 0) (a3 (aa 2) (aa 5) (aa 4))))) af)) af))) af)))))
  (ah (ax (eB bZ (ab (jh 1 (ef (aq bu (aa 2) (eS "box"))) (gN 9) aV (bA (ab (aa 9) (ab (aq bu (ay (ab (eI 0) (ab (eI 1) (ab (eI 999) (ab (ag "_law_pick" (a2 (aa 0) (eI 1000))) af))))) (ag "_law_pick" (a2 (aa 0) (eI 4)))) af)))) af)) (gN 8))
  (aQ (bA (ab (aa 8) (ab (eB bZ (ab (aq bu (aa 2) (eS "lock")) af)) (ab (eB bZ (ab (aq bu (aa 2) (eS "lane")) af)) (ab (eB bZ (ab (aq bu (aa 2) (eS "door")) af)) (ab (eB bZ (a1 (aa 6))) af))))))))))))))
def dt:Df:=⟨["_law_state"],8,iq⟩
def bT:MS :=
  (ah (cX (aX (aq hI (eX 0 0) (bA (a2 (eS "num") (eS "of"))))) (aQ (ay (ab (eB cU (a1 (eX 0 1))) af))) c8)
  (ah (ax (ay (a1 (eX 0 0))) (gN 1))
  (ah (d6 (ef (oZ (aa 0) (cH (eI 1)) cG)) (gN 2) (ax (aq aA (aa 1) (ag "_law_sum_words" (a1 (aa 2)))) (gN 1)))
  (aQ (aa 1)))))
def bP:Df:=⟨["_law_thing"],2,bT⟩
def dZ:MS :=
  (ah (ax (ay (a1 (eX 0 0))) (gN 1))
  (ah (d6 (ef (oZ (aa 0) (cH (eI 1)) cG)) (gN 2) (cX (aX (eB cm (ab (aa 2) (ab (eC (.ty "tuple")) af)))) (ax (aq aA (aa 1) (ag "_law_sum_words" (a1 (aa 2)))) (gN 1)) (aC (eM au aJ (aa 1) (ab (eB cU (a1 (aa 2))) af)))))
  (aQ (eM jd fO (eS " ") (a1 (aa 1))))))
def dY:Df:=⟨["_law_row_here"],2,dZ⟩
def gH:MS :=
  (ah (ax (jh 1 (ef (eX 0 0)) (gN 6) aV (aq aA (aq aA (aq aA (eS "box ") (eX 6 0)) (eS " ")) (eB cU (a1 (eX 6 1))))) (gN 1))
  (ah (d6 (jP (a2 (eI 1) (eI 4))) (gN 2) (d6 (ef (aq bu (aa 0) (aa 2))) (gN 3) (aC (eM au aJ (aa 1) (ab (aq aA (aq aA (aq bu (ay (ab (eS "box") (a3 (eS "lock") (eS "lane") (eS "door")))) (aa 2)) (eS " ")) (aa 3)) af)))))
  (ah (d6 (ef (eX 0 4)) (gT 2 (ao (gN 3) (ao (gN 4) bE))) (ah (aC (eM au aJ (aa 1) (ab (aq aA (eS "hand ") (aa 3)) af)))
  (d6 (ef (aa 4)) (gN 5) (aC (eM au aJ (aa 1) (ab (ag "_law_row_line" (a1 (aa 5))) af))))))
  (aQ (aa 1)))))
def gF:Df:=⟨["_law_program_here"],5,gH⟩
def bw:MS :=
  (ah (cX (aX (eB cm (ab (aa 1) (ab (bA (ab (eC (.ty "tuple")) (ab (eC (.ty "list")) af))) af)))) (ah (cX (C7 (aX (aq pD (eB cm (ab (aa 0) (ab (eC (.ty "tuple")) af))) (eB cm (ab (aa 1) (ab (eC (.ty "tuple")) af))))) (aX (aq pD (eB cm (ab (aa 0) (ab (eC (.ty "list")) af))) (eB cm (ab (aa 1) (ab (eC (.ty "list")) af)))))) (aQ (eC (.bl false))) c8)
  (aQ (ic (aq qj (eB cN (a1 (aa 0))) (eB cN (a1 (aa 1)))) (eB uU (ab (jh 1 (eO (ab (eB cN (a1 (aa 1))) af)) (gN 2) aV (ag "_law_same" (ab (aq bu (aa 0) (aa 2)) (ab (aq bu (aa 1) (aa 2)) af)))) af))))) c8)
  (ah (cX (aX (Eg (mG false) (aa 1))) (aQ (Eg (mG false) (aa 0))) c8)
  (ah (cX (C7 (aX (eB cm (ab (aa 1) (ab (eC (.ty "bool")) af)))) (aX (eB cm (ab (aa 0) (ab (eC (.ty "bool")) af))))) (aQ (ic (eB cm (ab (aa 1) (ab (eC (.ty "bool")) af))) (ic (eB cm (ab (aa 0) (ab (eC (.ty "bool")) af))) (aq qj (aa 0) (aa 1))))) c8)
  (ah (cX (aX (eB cm (ab (aa 1) (ab (eC (.ty "int")) af)))) (aQ (ic (eB cm (ab (aa 0) (ab (eC (.ty "int")) af))) (aq qj (aa 0) (aa 1)))) c8)
  (aQ (ic (eB cm (ab (aa 0) (ab (eC (.ty "str")) af))) (aq qj (aa 0) (aa 1))))))))
def aY:Df:=⟨["_law_found", "_law_due"],0,bw⟩
def xC:MS :=
  (ah (ax (oX (bQ (eS "script") (aa 0) (bQ (eS "k") (eI 0) ue))) (gN 1))
  (ah (ax (ay (ab (ag "_law_program" (a1 (aa 1))) (ab (ag "_law_program" (a1 (aa 1))) af))) (gN 2))
  (ah (d6 (eO (a1 (eI 4))) (gN 3) (ah (ax (aq bu (aa 2) (aq g9 (aa 3) (eI 2))) (gN 4))
  (ah (ax (ag "_law_lines" (a1 (aa 4))) (gN 5))
  (ah (ax (ag "shown" (a1 (aa 4))) (gN 6))
  (ah (cX (mF (aX (ag "_law_same" (a2 (aa 6) (aa 5))))) (aQ (eC (.bl false))) c8)
  (ah (ax (eB j9 (a1 (aa 5))) (gN 7))
  (ah (cX (C7 (mF (aX (ag "_law_same" (ab (ag "read" (a1 (aa 7))) (a1 (aa 4)))))) (aX (aq pD (aa 7) (aa 5)))) (aQ (eC (.bl false))) c8)
  (ah (aC (eM au aJ (aa 6) (a1 (eS "hand x"))))
  (ah (aC (eM y8 aJ (aa 6) af))
  (cX (mF (aX (ag "_law_same" (ab (ag "read" (ab (eB j9 (a1 (aa 5))) af)) (a1 (aa 4)))))) (aQ (eC (.bl false))) c8))))))))))
  (aQ (ag "_law_same" (ab (ag "shown" (ab (ag "read" (ab (ay (a1 (eS "hand lets"))) af)) af)) (ab (ay (a1 (eS "hand lets"))) af)))))))
def zC:Df:=⟨["_law_script"],7,xC⟩
def gZ:MS :=
  (ah (oI "@Line" "row" (aa 0) (aa 1))
  (ah (oI "@Line" "words" (aa 0) (eM ph fO (aa 2) (a1 (eS " "))))
  (oI "@Line" "place" (aa 0) (eI 0))))
def cw:Df:=⟨["self", "row", "text"],0,gZ⟩
def ji:MS :=
  (ah (cX (aX (aq qj (bO "@Line" "place" (aa 0)) (eB cN (ab (bO "@Line" "words" (aa 0)) af)))) jx c8)
  (aQ (aq bu (bO "@Line" "words" (aa 0)) (bO "@Line" "place" (aa 0)))))
def dI:Df:=⟨["self"],0,ji⟩
def iy:MS :=
  (ah (cX (mF (aX (aa 1))) jx c8)
  (Jp "@Line" "place" (aa 0) (eI 1)))
def dz:Df:=⟨["self", "fits"],0,iy⟩
def jY:MS :=
  (cX (aX (aq FT (bO "@Line" "place" (aa 0)) (eB cN (ab (bO "@Line" "words" (aa 0)) af)))) jx c8)
def eJ:Df:=⟨["self"],0,jY⟩
def fZ:MS :=
  (ah (oI "@Draft" "latest" (aa 0) (eS "box"))
  (ah (oI "@Draft" "names" (aa 0) (oX (bQ (eS "box") (ay af) (bQ (eS "lock") (ay af) (bQ (eS "lane") (ay af) (bQ (eS "door") (ay af) (bQ (eS "hand") (ay af) ue)))))))
  (ah (oI "@Draft" "worths" (aa 0) (ay af))
  (ah (oI "@Draft" "rows" (aa 0) (ay af))
  (oI "@Draft" "leaps" (aa 0) (ay af))))))
def bN:Df:=⟨["self"],0,fZ⟩
def fY:MS :=
  (ah (ax (aq Q6 (Rb (.ktup [(.str "box"),(.str "lock"),(.str "lane"),(.str "door"),(.str "hand")]) (a1 (aa 1))) (Rb (.ktup [(.str "box"),(.str "lock"),(.str "lane"),(.str "door"),(.str "hand")]) (ab (bO "@Draft" "latest" (aa 0)) af))) (gN 2))
  (aQ (ic (aa 2) (aq FT (eB cN (ab (aq bu (bO "@Draft" "names" (aa 0)) (aa 1)) af)) (eI 4)))))
def cR:Df:=⟨["self", "sort"],1,fY⟩
def dR:MS :=
  (aQ (ic (aq An (eB cN (ab (bO "@Draft" "rows" (aa 0)) af)) (eI 0)) (aq FT (eB cN (ab (aq bu (bO "@Draft" "rows" (aa 0)) (Eg CS (eI 1))) af)) (eI 30))))
def bH:Df:=⟨["self"],0,dR⟩
def f9:MS :=
  (aQ (eB xG (ab (jh 1 (ef (eC (.ktup [(.str "box"),(.str "lock"),(.str "lane"),(.str "door"),(.str "hand")]))) (gN 2) aV (aq hI (aa 1) (aq bu (bO "@Draft" "names" (aa 0)) (aa 2)))) af)))
def cQ:Df:=⟨["self", "name"],0,f9⟩
def gD:MS :=
  (ah (oI "@Draft" "latest" (aa 0) (aa 1))
  (ah (aC (eM au aJ (aq bu (bO "@Draft" "names" (aa 0)) (aa 1)) (a1 (aa 2))))
  (cX (mQ (aa 1) (eS "hand")) (aC (eM au aJ (bO "@Draft" "rows" (aa 0)) (a1 (ay af)))) c8)))
def du:Df:=⟨["self", "sort", "name"],0,gD⟩
def gm:MS :=
  (ah (ax (aq Hb (aq bu (bO "@Draft" "names" (aa 0)) (eS "box")) (bO "@Draft" "worths" (aa 0))) (gN 1))
  (ah (ax (aq Hb (aq bu (bO "@Draft" "names" (aa 0)) (eS "hand")) (jh 1 (ef (bO "@Draft" "rows" (aa 0))) (gN 3) aV (eB bZ (a1 (aa 3))))) (gN 2))
  (aQ (bA (ab (aa 1) (ab (eB bZ (ab (aq bu (bO "@Draft" "names" (aa 0)) (eS "lock")) af)) (ab (eB bZ (ab (aq bu (bO "@Draft" "names" (aa 0)) (eS "lane")) af)) (ab (eB bZ (ab (aq bu (bO "@Draft" "names" (aa 0)) (eS "door")) af)) (a1 (aa 2))))))))))
def cM:Df:=⟨["self"],2,gm⟩
structure cx(pg:Tb):Prop where
 yG:pg.fns "is_word" =TK iR
 y0:pg.fns "is_name" =TK eQ
 Fu:pg.fns "shown" =TK rL
 sR:pg.fns "shown_row" =TK iu
 ik:pg.fns "shown_sum" =TK dj
 MQ:pg.fns "read" =TK ve
 lJ:pg.fns "read_line" =TK dQ
 gQ:pg.fns "read_thing" =TK cL
 vF:pg.fns "read_row" =TK jv
 dM:pg.fns "read_part" =TK bV
 pH:pg.fns "read_number" =TK dG
 lY:pg.fns "writes_number" =TK c6
 gG:pg.fns "read_sum" =TK jz
 tm:pg.fns "_law_draw" =TK cI
 tH:pg.fns "_law_pick" =TK fF
 qV:pg.fns "_law_names" =TK eE
 dJ:pg.fns "_law_sum_in" =TK br
 u9:pg.fns "_law_sum" =TK gM
 vi:pg.fns "_law_row" =TK gC
 nO:pg.fns "_law_program" =TK dt
 dE:pg.fns "_law_sum_words" =TK bP
 l7:pg.fns "_law_row_line" =TK dY
 su:pg.fns "_law_lines" =TK gF
 ip:pg.fns "_law_same" =TK aY
 Hk:pg.fns "law" =TK zC
 Q8:pg.con "SORTS" =TK (.ktup [(.str "box"),(.str "lock"),(.str "lane"),(.str "door"),(.str "hand")])
 Nb:pg.con "LETTERS" =TK (.str "abcdefghijklmnopqrstuvwxyz")
 Ck:pg.con "LONGEST_NAME" =TK (.int 8)
 Hv:pg.con "MOST_SUMS" =TK (.int 12)
 Nh:pg.con "DEEPEST" =TK (.int 5)
 za:pg.con "MOST_OF_A_SORT" =TK (.int 4)
 Hs:pg.con "MOST_ROWS" =TK (.int 30)
 zo:pg.con "LEAST_CHANCES" =TK (.int 2)
 Ag:pg.con "MOST_CHANCES" =TK (.int 1000)
 M7:pg.con "FIGURES" =TK (.str "0123456789")
 GY:pg.con "MOST_VALUE" =TK (.int 999)
 ba:pg.sJ "ROW_PARTS" =TK ba
 bf:pg.sJ "SUM_PARTS" =TK bf
 fM:uW pg "@Line" (ae pg "@Line") ["place", "row", "words"]
 IM:pg.cls "Line" =TK (ae pg "@Line", "Line.__init__")
 Ie:pg.df "Line" =TL
 fI:uW pg "@Draft" (ae pg "@Draft") ["latest", "leaps", "names", "rows", "worths"]
 Fg:pg.cls "Draft" =TK (ae pg "@Draft", "Draft.__init__")
 DC:pg.df "Draft" =TL
 mM:pg.qE "Line.__init__" =TK ("@Line",("__init__" :Str),cw)
 mL:pg.fns "Line.__init__" =TL
 pN:pg.qE "Line.coming" =TK ("@Line",("coming" :Str),dI)
 pL:pg.fns "Line.coming" =TL
 oA:pg.qE "Line.go_over" =TK ("@Line",("go_over" :Str),dz)
 og:pg.fns "Line.go_over" =TL
 sG:pg.qE "Line.close" =TK ("@Line",("close" :Str),eJ)
 rS:pg.fns "Line.close" =TL
 kS:pg.qE "Draft.__init__" =TK ("@Draft",("__init__" :Str),bN)
 kX:pg.fns "Draft.__init__" =TL
 k7:pg.qE "Draft.may_tell" =TK ("@Draft",("may_tell" :Str),cR)
 ku:pg.fns "Draft.may_tell" =TL
 iH:pg.qE "Draft.may_have_row" =TK ("@Draft",("may_have_row" :Str),bH)
 iA:pg.fns "Draft.may_have_row" =TL
 kU:pg.qE "Draft.has_name" =TK ("@Draft",("has_name" :Str),cQ)
 ko:pg.fns "Draft.has_name" =TL
 jN:pg.qE "Draft.tell" =TK ("@Draft",("tell" :Str),du)
 jU:pg.fns "Draft.tell" =TL
 ky:pg.qE "Draft.finished" =TK ("@Draft",("finished" :Str),cM)
 k8:pg.fns "Draft.finished" =TL
def fnT:List (String × Df):=[("is_word",iR),("is_name",eQ),("shown",rL),("shown_row",iu),("shown_sum",dj),("read",ve),("read_line",dQ),("read_thing",cL),("read_row",jv),("read_part",bV),("read_number",dG),("writes_number",c6),("read_sum",jz),("_law_draw",cI),("_law_pick",fF),("_law_names",eE),("_law_sum_in",br),("_law_sum",gM),("_law_row",gC),("_law_program",dt),("_law_sum_words",bP),("_law_row_line",dY),("_law_lines",gF),("_law_same",aY),("law",zC)]
noncomputable def conT:List (Str × PV):=[("SORTS",(.ktup [(.str "box"),(.str "lock"),(.str "lane"),(.str "door"),(.str "hand")])),("LETTERS",(.str "abcdefghijklmnopqrstuvwxyz")),("LONGEST_NAME",(.int 8)),("MOST_SUMS",(.int 12)),("DEEPEST",(.int 5)),("MOST_OF_A_SORT",(.int 4)),("MOST_ROWS",(.int 30)),("LEAST_CHANCES",(.int 2)),("MOST_CHANCES",(.int 1000)),("FIGURES",(.str "0123456789")),("MOST_VALUE",(.int 999))]
def dcT:List (Str × List (Key × PV)):=[("ROW_PARTS",ba),("SUM_PARTS",bf)]
def mtT:List (String × String × Str × Df):=[("Line.__init__", "@Line", "__init__",cw),("Line.coming", "@Line", "coming",dI),("Line.go_over", "@Line", "go_over",dz),("Line.close", "@Line", "close",eJ),("Draft.__init__", "@Draft", "__init__",bN),("Draft.may_tell", "@Draft", "may_tell",cR),("Draft.may_have_row", "@Draft", "may_have_row",bH),("Draft.has_name", "@Draft", "has_name",cQ),("Draft.tell", "@Draft", "tell",du),("Draft.finished", "@Draft", "finished",cM)]
noncomputable def adT(aLine aDraft:Nat):List (String × Nat × List Str):=[("@Line",aLine,["place", "row", "words"]),("@Draft",aDraft,["latest", "leaps", "names", "rows", "worths"])]
noncomputable def clT(aLine aDraft:Nat):List (String × Nat × String):=[("Line",aLine, "Line.__init__"),("Draft",aDraft, "Draft.__init__")]
def tb(aLine aDraft:Nat):Tb:=⟨λf=>(fnT.find? λp=>p.1 == f).map (·.2),λx=>(conT.find? λp=>decide (p.1=x)).map (·.2),λx=>(dcT.find? λp=>decide (p.1=x)).map (·.2),λf=>(mtT.find? λp=>p.1 == f).map (·.2),λf=>((clT aLine aDraft).find? λp=>p.1 == f).map (·.2),λf=>((adT aLine aDraft).find? λp=>p.1 == f).map (·.2)⟩
theorem cu{l:List (String × Df)}(nd:(l.map (·.1)).Nodup)(i:Nat)(e:l[i]?=TK (f,d)):(l.find? λp=>p.1 == f).map (·.2)=TK d:=by
 induction l generalizing i d with
 | nil=>cases e
 | cons x l ih =>
  rw[T9,V5] at nd
  cases i with
  | zero =>
   simp_all
  | succ i =>
   rw[List.getElem?_cons_succ] at e
   have m:=UW e
   have ne: ¬ (x.1 == f)=true:=λz=>nd.1 (by rw[beq_iff_eq.mp z];exact Vb.mpr ⟨_,m,rfl⟩)
   rw[List.find?_cons_of_neg (p:=λp:String × Df=>p.1 == f) ne]
   exact ih nd.2 i e
theorem cj:(fnT.map (·.1)).Nodup:=by decide +kernel
theorem has(aLine aDraft:Nat):cx (tb aLine aDraft):=⟨cu cj 0 rfl,cu cj 1 rfl,cu cj 2 rfl,cu cj 3 rfl,cu cj 4 rfl,cu cj 5 rfl,cu cj 6 rfl,cu cj 7 rfl,cu cj 8 rfl,cu cj 9 rfl,cu cj 10 rfl,cu cj 11 rfl,cu cj 12 rfl,cu cj 13 rfl,cu cj 14 rfl,cu cj 15 rfl,cu cj 16 rfl,cu cj 17 rfl,cu cj 18 rfl,cu cj 19 rfl,cu cj 20 rfl,cu cj 21 rfl,cu cj 22 rfl,cu cj 23 rfl,cu cj 24 rfl,rfl,rfl,rfl,rfl,rfl,rfl,rfl,rfl,rfl,rfl,rfl,rfl,rfl,⟨rfl,rfl,rfl⟩,rfl,rfl,⟨rfl,rfl,rfl⟩,rfl,rfl,rfl,rfl,rfl,rfl,rfl,rfl,rfl,rfl,rfl,rfl,rfl,rfl,rfl,rfl,rfl,rfl,rfl,rfl,rfl,rfl⟩
local macro_rules
 | `(tactic| array_get_dec)=> do
  let tm (x:String):Lean.MacroM Lean.Term:=match x with
   | "?"=>`(?_)
   | "_"=>`(_)
   | "A"=>`(by assumption)
   | "R"=>`(rfl)
   | "F"=>`(λ_ _=>rfl)
   | "K"=>`(by decide +kernel)
   | "D"=>`(by decide)
   | "Q"=>`(⟨rfl,rfl,rfl,rfl⟩)
   | "L"=>`(λ_ _ _ _ _ _=>⟨λ_=>?_,?_,?_⟩)
   | "O"=>`(by first | exact Zw rfl | exact X7 rfl)
   | "Z"=>`(by intro z;cases z)
   | "w"=>`(zF _)
   | x=>pure (Lean.mkIdent x.toName)
  let al (a:String):Lean.MacroM (Lean.TSyntax `tactic):=do
   match a.splitOn " " with
   | ["p",q,n]=>`(tactic| refine $(Lean.mkIdent q.toName) ($(Lean.mkIdent n.toName) ?_ ?_))
   | [n]=>`(tactic| refine $(Lean.mkIdent n.toName))
   | n::r=>do
     let ts ← r.toArray.mapM tm
     `(tactic| refine $(Lean.mkIdent n.toName) $ts*)
   | []=>Lean.Macro.throwUnsupported
  let fs (x:List (Lean.TSyntax `tactic)):Lean.MacroM (Lean.TSyntax `tactic):=do
   let e ← `(tactic| fail)
   x.foldrM (λa b=>`(tactic| first | $a:tactic | $b:tactic)) e
  let gr (g:String):Lean.MacroM (Lean.TSyntax `tactic):=do
   match g.splitOn ":" with
   | [h,b]=>do
     let y ← fs (← (b.splitOn "|").mapM al)
     match h.splitOn " " with
     | [n,k]=>do
       let hs ← (Array.range k.toNat!).mapM λ_=>`(_)
       `(tactic| (show $(Lean.mkIdent n.toName) $hs*;$y:tactic))
     | _=>Lean.Macro.throwUnsupported
   | _=>Lean.Macro.throwUnsupported
  let a ← ("JE 5:Lm A K ?|Le A A ? ?|Gq A A ?|D0 A A R ?|Bu A A R|DI R R ? ?|Qx ?|MU _|HS|MY|PX|Qy RY ? ? F|Dl A R ?|Oe ? ? ?|xT A R ?|JR ?|MD ?|CK ? ? ? w|CK ? ? ? R|LO ?|zu ? ? ? ? ?|LN A R ?|Jh ?|Qq N4 ?|LF ? ?|OL ? ?|KC ?|Cj ? ? ?|EZ A R ? F|Ao ? ? ?|Cs|EI ? R R Z D|Kj ? L|Ia ? L|Kr A R|Fz QC R K PySem.boot_len ?|Fz Qt R K boot_isinstance ?|Fz Qm R K boot_all ?|Fz Ny R K boot_any ?|GJ Jz R K boot_int ?|GJ EE R K boot_tuple ?|GJ HV R K boot_list ?|GJ J3 R K boot_str ?|t8 R K boot_int|t8 R K boot_bool|t8 R K boot_str|t8 R K boot_list|t8 R K boot_tuple|Am PySem.F.plainAttrs_list PySem.F.slot_list_append PySem.F.type_list_append zt ? ?|Am PySem.F.plainAttrs_list PySem.F.slot_list_extend PySem.F.type_list_extend zQ ? ?|Am PySem.F.plainAttrs_dict PySem.F.slot_dict_update PySem.F.type_dict_update Aa ? ?|Am PySem.F.plainAttrs_str PySem.F.slot_str_split PySem.F.type_str_split m_split ? ?|Am PySem.F.plainAttrs_str PySem.F.slot_str_join PySem.F.type_str_join K1 ? ?|PB PySem.F.plainAttrs_list PySem.F.slot_list_reverse PySem.F.type_list_reverse O5 ?#Ks 5:ER|Px ?|NU ? ?#JS 5:Ms A K ? ?|Gm A K ? ?|LM A ? L|MC A ? L|L0 A R O ?|Pe ? ? ?|J8 ?|Fj ?|LI Ow ? ? ?|GR R ? ? ? PassesOwn.never|IA ? ? ? PassesOwn.never|AO#JA 5:Lh|Eb ? ?#tV 5:Ga|Fe ?|Bh ? ?#JT 5:A4 ? ? ? w|A4 ? ? ? R|M4 ?|Ab ? ? ? ? ?|yS A R ?|p JW.pt Cn|p JW.pt Hi|Mm ?|KR ?#JW 5:Cn ? ?|Hi ? ?|Ey ?|Mc ?#JO 5:FL|DO ?#JP 7:KN|Gw ? ? ?#JG 5:DB A R O|Lv ?#Qz 5:ES|AK ? ?#JI 6:yC R ?|yE R ?|Kd R ? ?|M6 ?#JF 5:MR#QG 3:xw A R O|DN A ?#LB 3:wx|uG ? ?".splitOn "#").mapM gr
  let b ← ("OT|Dj|NV|K7|Nl|Oc|Rk|Sq|R6|Sh|Rr|Sb|RJ".splitOn "|").mapM al
  let t ← fs (a++b)
  `(tactic| repeat' first | $t:tactic | fail)
local macro_rules
 | `(tactic| clean_wf)=> `(tactic| (refine cA.on (by assumption) ⟨rfl,rfl,rfl,by decide +kernel,rfl,by decide +kernel,by decide +kernel⟩ rfl (λ_ _ _ _ _ _=>by first | exact R3 λ_=>rfl | exact RN λ_ _=>rfl | exact RC λ_ _ _=>rfl | exact S4 λ_ _ _ _=>rfl) λ_ _ _ _ _ _ _ _ _ _=>?_;obtain⟨⟩:= ‹cx _›; array_get_dec))
local macro_rules
 | `(tactic| array_mem_dec)=> `(tactic| (refine xh.on (by first | exact T.1 | (obtain⟨⟩:= ‹cx _›; assumption)) ⟨rfl,rfl,rfl,by decide +kernel,rfl,by decide +kernel,by decide +kernel⟩ rfl (λ_ _ _ _ _ _=>by first | exact R3 λ_=>rfl | exact RN λ_ _=>rfl | exact RC λ_ _ _=>rfl | exact S4 λ_ _ _ _=>rfl) λ_ _ _ _ _ _ _ _ _ _=>?_;obtain⟨⟩:= ‹cx _›; array_get_dec))
section
variable{P:UP}{w:U6}{K:TQ}{mg:Str->Option TY}{pg:Tb}
theorem yj(T:cx pg)(a:At K mg "is_word" (top 6)):cA P w K mg pg "is_word" iR (top 6) ["text"]:=by clean_wf
theorem yQ(T:cx pg)(a:At K mg "is_name" (top 7)):cA P w K mg pg "is_name" eQ (top 7) ["thing"]:=by
 have z0:(sL ["thing"] ["sign"]).Nodup:=by decide +kernel
 clean_wf
theorem Ew(T:cx pg)(a:At K mg "shown" (top 9)):cA P w K mg pg "shown" rL (top 9) ["program", "lines", "name", "rows"]:=by
 have z0:(sL ["program", "lines", "name", "rows"] ["name", "value"]).Nodup:=by decide +kernel
 have z1:(sL ["program", "lines", "name", "rows"] ["name"]).Nodup:=by decide +kernel
 have z2:(sL ["program", "lines", "name", "rows"] ["row"]).Nodup:=by decide +kernel
 clean_wf
theorem tL(T:cx pg)(a:At K mg "shown_row" (top 10)):cA P w K mg pg "shown_row" iu (top 10) ["row", "words", "part", "thing"]:=by clean_wf
theorem tF(T:cx pg)(a:At K mg "shown_sum" (top 11)):cA P w K mg pg "shown_sum" dj (top 11) ["tree"]:=by
 have z0:(sL ["tree"] ["part"]).Nodup:=by decide +kernel
 clean_wf
theorem Ii(T:cx pg)(a:At K mg "read" (top 26)):cA P w K mg pg "read" ve (top 26) ["lines", "draft", "row", "text", "target", "hand"]:=by clean_wf
theorem uC(T:cx pg)(a:At K mg "read_line" (top 27)):cA P w K mg pg "read_line" dQ (top 27) ["draft", "line", "word"]:=by clean_wf
theorem sf(T:cx pg)(a:At K mg "read_thing" (top 28)):cA P w K mg pg "read_thing" cL (top 28) ["draft", "line", "sort", "name"]:=by clean_wf
theorem wb(T:cx pg)(a:At K mg "read_row" (top 29)):cA P w K mg pg "read_row" jv (top 29) ["draft", "line", "word", "row", "part"]:=by clean_wf
theorem tZ(T:cx pg)(a:At K mg "read_part" (top 30)):cA P w K mg pg "read_part" bV (top 30) ["draft", "line", "part", "word"]:=by clean_wf
theorem pU(T:cx pg)(a:At K mg "read_number" (top 31)):cA P w K mg pg "read_number" dG (top 31) ["line", "least", "most", "word"]:=by clean_wf
theorem mE(T:cx pg)(a:At K mg "writes_number" (top 32)):cA P w K mg pg "writes_number" c6 (top 32) ["word", "least", "most"]:=by
 have z0:(sL ["word", "least", "most"] ["sign"]).Nodup:=by decide +kernel
 clean_wf
theorem u0(T:cx pg)(a:At K mg "read_sum" (top 33)):cA P w K mg pg "read_sum" jz (top 33) ["line", "start", "deep", "word", "has_room", "tree", "turn"]:=by clean_wf
theorem tT(T:cx pg)(a:At K mg "_law_draw" (top 35)):cA P w K mg pg "_law_draw" cI (top 35) ["_law_script", "_law_k", "_law_many", "_law_cell", "_law_left", "_law_j", "_law_seed"]:=by clean_wf
theorem sU(T:cx pg)(a:At K mg "_law_pick" (top 36)):cA P w K mg pg "_law_pick" fF (top 36) ["_law_state", "_law_many"]:=by clean_wf
theorem rR(T:cx pg)(a:At K mg "_law_names" (top 37)):cA P w K mg pg "_law_names" eE (top 37) ["_law_state", "_law_some", "_law_turn"]:=by clean_wf
theorem pS(T:cx pg)(a:At K mg "_law_sum_in" (top 38)):cA P w K mg pg "_law_sum_in" br (top 38) ["_law_state", "_law_pockets", "_law_deep", "_law_way", "_law_word", "_law_one"]:=by clean_wf
theorem vG(T:cx pg)(a:At K mg "_law_sum" (top 39)):cA P w K mg pg "_law_sum" gM (top 39) ["_law_state", "_law_pockets"]:=by clean_wf
theorem vN(T:cx pg)(a:At K mg "_law_row" (top 40)):cA P w K mg pg "_law_row" gC (top 40) ["_law_state", "_law_named", "_law_pockets", "_law_many", "_law_kinds", "_law_sort", "_law_some", "_law_kind", "_law_pocket", "_law_sorts", "_law_thing"]:=by clean_wf
theorem oR(T:cx pg)(a:At K mg "_law_program" (top 41)):cA P w K mg pg "_law_program" dt (top 41) ["_law_state", "_law_names_here", "_law_named", "_law_sort", "_law_many", "_law_pockets", "_law_hands", "_law_name", "_law_boxes"]:=by
 have z0:(sL ["_law_state", "_law_names_here", "_law_named", "_law_sort", "_law_many", "_law_pockets", "_law_hands", "_law_name", "_law_boxes"] ["_law_k"]).Nodup:=by decide +kernel
 have z1:(sL ["_law_state", "_law_names_here", "_law_named", "_law_sort", "_law_many", "_law_pockets", "_law_hands", "_law_name", "_law_boxes"] ["_law_name"]).Nodup:=by decide +kernel
 clean_wf
theorem kN(T:cx pg)(a:At K mg "_law_sum_words" (top 42)):cA P w K mg pg "_law_sum_words" bP (top 42) ["_law_thing", "_law_found", "_law_part"]:=by clean_wf
theorem mf(T:cx pg)(a:At K mg "_law_row_line" (top 43)):cA P w K mg pg "_law_row_line" dY (top 43) ["_law_row_here", "_law_words", "_law_part"]:=by clean_wf
theorem q9(T:cx pg)(a:At K mg "_law_lines" (top 44)):cA P w K mg pg "_law_lines" gF (top 44) ["_law_program_here", "_law_lines_here", "_law_k", "_law_name", "_law_rows", "_law_row_here"]:=by
 have z0:(sL ["_law_program_here", "_law_lines_here", "_law_k", "_law_name", "_law_rows", "_law_row_here"] ["_law_box"]).Nodup:=by decide +kernel
 clean_wf
theorem t9(T:cx pg)(a:At K mg "_law_same" (top 45)):cA P w K mg pg "_law_same" aY (top 45) ["_law_found", "_law_due"]:=by
 have z0:(sL ["_law_found", "_law_due"] ["_law_k"]).Nodup:=by decide +kernel
 clean_wf
theorem Ho(T:cx pg)(a:At K mg "law" (top 46)):cA P w K mg pg "law" zC (top 46) ["_law_script", "_law_state", "_law_programs", "_law_turn", "_law_program_here", "_law_due", "_law_found", "_law_handed"]:=by clean_wf
theorem l6(T:cx pg):xh P w K mg pg "Line.__init__" "__init__" cw (fR 24 0) ["self", "row", "text"]:=by array_mem_dec
theorem pK(T:cx pg):xh P w K mg pg "Line.coming" "coming" dI (fR 24 1) ["self"]:=by array_mem_dec
theorem oV(T:cx pg):xh P w K mg pg "Line.go_over" "go_over" dz (fR 24 2) ["self", "fits"]:=by array_mem_dec
theorem rB(T:cx pg):xh P w K mg pg "Line.close" "close" eJ (fR 24 3) ["self"]:=by array_mem_dec
theorem kG(T:cx pg):xh P w K mg pg "Draft.__init__" "__init__" bN (fR 25 0) ["self"]:=by array_mem_dec
theorem lE(T:cx pg):xh P w K mg pg "Draft.may_tell" "may_tell" cR (fR 25 1) ["self", "sort", "in_turn"]:=by array_mem_dec
theorem iM(T:cx pg):xh P w K mg pg "Draft.may_have_row" "may_have_row" bH (fR 25 2) ["self"]:=by array_mem_dec
theorem kO(T:cx pg):xh P w K mg pg "Draft.has_name" "has_name" cQ (fR 25 3) ["self", "name"]:=by
 have z0:(sL ["self", "name"] ["sort"]).Nodup:=by decide +kernel
 array_mem_dec
theorem sy(T:cx pg):xh P w K mg pg "Draft.tell" "tell" du (fR 25 4) ["self", "sort", "name"]:=by array_mem_dec
theorem lb(T:cx pg):xh P w K mg pg "Draft.finished" "finished" cM (fR 25 5) ["self", "boxes", "hands"]:=by
 have z0:(sL ["self", "boxes", "hands"] ["rows"]).Nodup:=by decide +kernel
 array_mem_dec
end
set_option maxHeartbeats 1000000
theorem ou: ∀ ss:List Str,cZ f (ss.map PV.str)=TK (ss.map Vv)
 | []=>rfl
 | x::r=>by rw[T9,cZ,ou r];rfl
theorem kn{ss:List Str}(e:h[n]?=TK (.lst (ss.map PV.str))):dat (k+1) h (.ref n)=TK (.list (ss.map Vv)):=by
 unfold dat;simp only[oF,e,ou,Zg]
theorem ne_nil(e1:h[n]?=TK (.lst (ss.map PV.str)))(e2:h[m]?=TK (.lst []))(ok: ∀ x∈ss,UG x=true):pD (.ref n) (.ref m) h= .ok (.bl (!decide (ss=[]))) h:=by
 have d1:=kn (k:=5) e1;have d2:=kn (k:=5) (ss:=[]) (n:=m) e2;have sc:lP (.ref n) (.ref m)=false:=rfl;have dp: ∀ xs:List Str,ZI (.list (xs.map Vv))=xs.all UG:=λxs=>by
  rw[ZI,XI]
 have al:alike (.ref n) (.ref m) h=TK (decide (ss=[])):=by
  unfold alike;rw[sc,d1,d2];have c1:(WR (ss.map Vv)).canLay0=true:=by rw[dp];exact Wt.mpr ok
  have c2:(WR (([]).map Vv)).canLay0=true:=by rfl
  have c3:min (WR (ss.map Vv)).depth (WR (([]:List Str).map Vv)).depth<=64:=UQ (YE _ _) (by decide);simp only[Ya,if_false,c1,c3,if_true];cases ss with
  | nil=>rfl
  | cons x r=>rfl
 have nd:jS h (.ref n)=false:=by simp only[jS,e1]
 unfold pD;rw[al,nd];rfl
theorem iX(e:h[n]?=TK (.lst xs)):pE.iw ⟨TK n,xs⟩ h=true:=by
 unfold pE.iw;simp only[e,true_or,decide_true]
theorem cJ{h X:PH}{n:Nat}{o:PO}(e:h[n]?=TK o):(h++X)[n]?=TK o:=by
 rw[Uq ((TR.mp e).1)];exact e
theorem HF{h:PH}{n:Nat}{a:Str}{ss:List Str}(e:h[n]?=TK (.lst (ss.map PV.str))):hI (.str a) (.ref n) h= .ok (.bl (decide (a∈ss))) h:=by
 have:isIn (.str a) (.ref n) h=TK (decide (a∈ss)):=by
  unfold P3.isIn;simp only[itemsOf,bp,e,P3.all_strs,fG,WK,if_true,jI]
 unfold hI;rw[this]
theorem jZ{h g:PH}{b:Bool}:P3.settle h (.bl b) (h++g)= .ok (.bl b) h:=dc rfl
theorem aD{a b:MS}{c:CF}{e e1:az}{h h1:PH}(q:a c e h= .ok (.nx e1) h1):ah a b c e h=b c e1 h1:=by rw[Av,q,aF,xf]
end K04
end
section
open PySem L2 P3
local macro_rules
 | `(tactic| simp? [$ls,*])=> `(tactic| simp? (disch:=omega) only [$ls,*])
 | `(tactic| simp? (disch:= $t) only [$ls,*])=> do
  let xs ← ("↓MN ↓Ll Ed ↓DX CW ↓FZ CH BM ↓AH ↓Oj ↓NN ↓Pn Ph ↓QB Jv Jl ↓OW Ko ↓Ha Mw J4 ↓Qc Iq KQ Jr ↓Pa LK ↓PR ↓vT GO ↓So IU ↓Lp Es Dm Dg ↓Po K8 Kw LA ↓L8 Ec ↓Ov LL Lw Kq HR ↓HX ↓Ef Cm C4 CI Ar ↓Mn Ei FH FA Fh ↓Gu CG ↓Fv ↓D8 ↓C0 yB yO ↓KS EJ ↓KA EC iF ↓Eo ↓Se ↓OU ↓Nm Kg Js GS ET F6 ↓Av xf Gh EM EH ↓Pg ↓wu Ax ↓Li E8 ↓JQ GD GN FY Fn ↓MX GP EL Iv PK Ja L9 Lr Lc PD Ij Io ↓MJ El Dv Ez IC ↓ee c7 gb ↓Lb IP HP Kv K4 La ↓KU DW ↓M5 Gg ↓J1 Dx Cd BQ ↓O0 Ml I0 PY Jy Ej Gi Fs FF Iu aF CP fh CU FC fE List.getElem?_cons_zero List.getElem?_cons_succ List.set_cons_zero List.set_cons_succ List.map_cons List.map_nil List.cons_append List.nil_append List.replicate_succ List.replicate_zero List.length_cons List.length_nil DL GW GG yR uV FV MH Jd Mx LX Gz DH Fp Fy Fx Sg Rv va AI x6 Rl mP sC N9 vA len_T Nj Mf uh ↓BK aM aZ kM Ds AJ O9 IH KY HQ EN ↓Oo JH Mz ↓Qr ↓NA K2 R9 Sf OX List.append_assoc List.length_append xI in_K ↓Nk Lf ↓Oh Lo Kn Pp Ot Pm NH aT decide_true decide_false Bool.not_true Bool.not_false if_true if_false reduceIte ite_self Bool.false_eq_true String.reduceEq String.reduceNe reduceCtorEq Int.reduceEq Int.reduceNe Int.reduceLT Int.reduceLE Int.reduceSub Int.reduceAdd Int.reduceMul Int.reduceToNat Int.reduceNeg".splitOn " ").toArray.mapM λw=>if w.startsWith "↓" then `(Lean.Parser.Tactic.simpLemma| ↓$(Lean.mkIdent (w.drop 1).toName):term) else `(Lean.Parser.Tactic.simpLemma| $(Lean.mkIdent w.toName):term)
  let ys : Lean.TSyntaxArray [`Lean.Parser.Tactic.simpStar,`Lean.Parser.Tactic.simpErase,`Lean.Parser.Tactic.simpLemma] := ls.getElems ++ xs.map (λx=>⟨x.raw⟩)
  `(tactic| simp (disch:= $t) only [$ys,*])
section
set_option maxHeartbeats 1000000
namespace K04
noncomputable def Bm(lo hi:Int):PV->Bool
 | .int i=>decide (lo<=i/\i<=hi)
 | _=>false
noncomputable def lets:Str:= "abcdefghijklmnopqrstuvwxyz"
def g8(c:Nat):Bool:= !(Vd lets ⟨#[c]⟩ 0 lets.length 1).isEmpty
noncomputable def W5:List Str:=["box", "lock", "lane", "door", "hand"]
noncomputable def vd:List Str:=["let", "leap", "get", "put", "take", "free", "send", "fetch", "say", "clock", "lot", "hear"]
noncomputable def W6:List Str:=["add", "sub", "mul", "less", "same", "not"]
def uN(s:Str):Bool:=decide (s∈W5)||(decide (s∈vd)||decide (s∈W6))
def gp:PV->Bool
 | .str s=>decide (1<=s.length∧s.length<=8)&&((s.cps.toList.all g8)&& !uN s)
 | _=>false
theorem mO{s:Str}: ∀{kvs:List (Key × PV)}{ws:List Str},(kvs.map λkv:Key × PV=>kv.1)=ws.map Xv->(bt kvs (.inr s)).isSome=decide (s∈ws)
 | [],[],_=>rfl
 | [],w::t,e=>by cases e
 | kv::r,[],e=>by cases e
 | kv::r,w::t,e=>by
  obtain⟨k,v⟩:=kv;rw[T9,T9] at e;obtain⟨e1,e2⟩:=W0 e;simp only at e1;subst e1;by_cases c:w=s
  . subst c;rw[sC];simp
  . rw[sO (by simpa using c),mO e2];simp[VI c]
theorem wL{s:Str}{h:PH}(l:s.length<=1000):cN [.str s] h= .ok (.int s.length) h:=by
 show iT s.length _=_;exact iF (by omega)
theorem N2{s:Str}{h:PH}:mC (.str s) h= .ok ⟨TL,s.cps.toList.map λc=> .str ⟨#[c]⟩⟩ h:=rfl
theorem isJ{s:Str}{h:PH}:fO (.str s) h=true:=rfl
theorem GQ{c:Nat}{h:PH}:hI (.str ⟨#[c]⟩) (.str lets) h= .ok (.bl (g8 c)) h:=rfl
section
variable{pg:Tb}(T:cx pg)
include T
theorem Hc(j:Nat){h:PH}(s:Str):run pg (j+1) "is_word" [.str s] h= .ok (.bl (uN s)) h:=by
 rw[run_eq T.yG rfl];have e1: ∀ h,hI (.str s) (.ktup [.str "box",.str "lock",.str "lane",.str "door",.str "hand"]) h= .ok (.bl (decide (s∈W5))) h:=λh=>in_K (ss:=W5);have e2:(bt ba (.inr s)).isSome=decide (s∈vd):=mO rfl;have e3:(bt bf (.inr s)).isSome=decide (s∈W6):=mO rfl;simp? [iR,qR,e1,e2,e3];unfold uN;by_cases a:s∈W5
 . simp only[a,if_true,decide_true,aat,fh,fE]
 . by_cases b:s∈vd
   . simp only[a,b,if_true,if_false,decide_true,decide_false,aat,Bool.or_true,fh,fE]
   . simp only[a,b,if_false,decide_false,Bool.false_or,fh,fE]
theorem eP(j:Nat){h:PH}{s:Str}(l:s.length<=1000):run pg (j+2) "is_name" [.str s] h= .ok (.bl (gp (.str s))) h:=by
 rw[run_eq T.y0 rfl];by_cases e:1<=s.length/\s.length<=8
 . have e1:(1:Int)<=(s.length:Int):=by omega
   have e2:(s.length:Int)<=8:=by omega
   have z:s.cps.toList.length<=8:=e.2;have lc: ∀(g:CF)(E:az),P3.jD ⟨TL,s.cps.toList.map λc=> .str ⟨#[c]⟩⟩ (bL 1 (gN 1) aV (aq hI (aa 1) (eS "abcdefghijklmnopqrstuvwxyz")) g [TK (.str s)]) (s.cps.toList.map λc=> .str ⟨#[c]⟩) [] h= .ok ((s.cps.toList.map g8).map PV.bl) h:=λg E=>by
    refine(cO (α :=Nat) rfl s.cps.toList [] (f:=λc=>TK (.bl (g8 c))) (λc _=>?_) (by simp only[Vc];omega)).trans ?_
    . have si: ∀ h,hI (.str ⟨#[c]⟩) (.str "abcdefghijklmnopqrstuvwxyz") h= .ok (.bl (g8 c)) h:=λh=>GQ;simp? [si]
    . rw[UU,Vm,VB];rfl
   have al:uU [.ref h.length] (h++[.lst ((s.cps.toList.map g8).map PV.bl)])= .ok (.bl (s.cps.toList.all g8)) (h++[.lst ((s.cps.toList.map g8).map PV.bl)]):=by
    rw[xx (bs:=s.cps.toList.map g8) aM];simp
   simp? [eQ,iZ,oh,wL l,e1,e2,N2,lc _ [],al,Hc T j s];simp only[gp,e,and_self,decide_true,abb];cases s.cps.toList.all g8<;>simp? [Hc T j s,jZ,abb,X9]
 . have n:gp (.str s)=false:=by simp only[gp,e,decide_false,X9]
   rw[n];by_cases e1:(1:Int)<=(s.length:Int)
   . have e2: ¬ (s.length:Int)<=8:=by omega
     simp? [eQ,iZ,oh,wL l,e1,e2]
   . simp? [eQ,iZ,oh,wL l,e1]
end
noncomputable def pr(q:Str × PV):PV:= .tup [.str q.1,q.2]
def aL(x:Str):Prop:=UG x=true/\x.length<=20/\gp (.str x)=true/\x≠ "nobody"
inductive Bo where | add | sub | mul | less | same
noncomputable def Bo.w:Bo->Str
 | .add=> "add" | .sub=> "sub" | .mul=> "mul" | .less=> "less" | .same=> "same"
inductive Sm where
 | num (n:Int) | of (x:Str) | un (a:Sm) | bin (o:Bo) (a b:Sm)
def cz:Sm->PV
 | .num n=> .tup [.str "num",.int n]
 | .of x=> .tup [.str "of",.str x]
 | .un a=> .tup [.str "not",cz a]
 | .bin o a b=> .tup [.str o.w,cz a,cz b]
def Sm.dp:Sm->Nat
 | .num _=>1 | .of _=>1 | .un a=>a.dp+1 | .bin _ a b=>max a.dp b.dp+1
def Sm.cn:Sm->Nat
 | .num _=>1 | .of _=>1 | .un a=>a.cn+1 | .bin _ a b=>a.cn+b.cn+1
def Sm.ok:Sm->Prop
 | .num n=>0<=n/\n<=999 | .of x=>aL x | .un a=>a.ok | .bin _ a b=>a.ok/\b.ok
theorem cg: ∀ e ,(cz e).flat=true
 | .num n=>rfl
 | .of x=>rfl
 | .un a=>by simp[cz,PV.flat,PV.aS,cg a]
 | .bin o a b=>by simp[cz,PV.flat,PV.aS,cg a,cg b]
theorem Sm.qU: ∀ e:Sm,1<=e.cn
 | .num n=>T6 _
 | .of x=>T6 _
 | .un a=>by unfold Sm.cn;omega
 | .bin o a b=>by unfold Sm.cn;omega
def kr(e:Sm):Prop:=e.ok/\e.dp<=5/\e.cn<=12
inductive Rw where
 | let_ (x:Str) (e:Sm) | leap (k:Int) (e:Sm) | take (l:Str) | free (l:Str) | get (x b:Str) | put (b:Str) (e:Sm)
 | send (l:Str) (e:Sm) | fetch (x l:Str) | say (d:Str) (e:Sm) | clock (x:Str) | lot (x:Str) (n:Int) | hear (x d:Str)
noncomputable def Rw.w:Rw->Str
 | .let_ _ _=> "let" | .leap _ _=> "leap" | .take _=> "take" | .free _=> "free" | .get _ _=> "get" | .put _ _=> "put"
 | .send _ _=> "send" | .fetch _ _=> "fetch" | .say _ _=> "say" | .clock _=> "clock" | .lot _ _=> "lot" | .hear _ _=> "hear"
def Rw.ps:Rw->List PV
 | .let_ x e=>[.str x,cz e] | .leap k e=>[.int k,cz e] | .take l=>[.str l] | .free l=>[.str l] | .get x b=>[.str x,.str b] | .put b e=>[.str b,cz e]
 | .send l e=>[.str l,cz e] | .fetch x l=>[.str x,.str l] | .say d e=>[.str d,cz e] | .clock x=>[.str x] | .lot x n=>[.str x,.int n] | .hear x d=>[.str x,.str d]
def bY(r:Rw):PV:= .tup (.str r.w::r.ps)
def aH(rs:List Rw):PV:= .tup (rs.map bY)
def kD(L:List Str)(n:Nat):Rw->Prop
 | .let_ x e=>x∈L/\kr e
 | .leap k e=>0<=k/\k<=n/\kr e
 | .put _ e=>kr e
 | .send _ e=>kr e
 | .say _ e=>kr e
 | .get x _=>x∈L
 | .fetch x _=>x∈L
 | .clock x=>x∈L
 | .lot x m=>x∈L/\2<=m/\m<=1000
 | .hear x _=>x∈L
 | _=>True
def pb(s1 s2 s3 s4:List Str):Rw->Prop
 | .put x _=>x∈s1
 | .send x _=>x∈s3
 | .say x _=>x∈s4
 | .get _ x=>x∈s1
 | .fetch _ x=>x∈s3
 | .hear _ x=>x∈s4
 | .take x=>x∈s2
 | .free x=>x∈s2
 | _=>True
theorem qO: ∀ hs:List Str,PV.aS (hs.map PV.str)=true
 | []=>rfl
 | x::r=>by rw[T9,PV.aS,qO r];rfl
theorem nZ r:(bY r).flat=true:=by
 cases r<;>simp[bY,Rw.ps,PV.flat,PV.aS,cg]
theorem iY: ∀ rs:List Rw,PV.aS (rs.map bY)=true
 | []=>rfl
 | x::r=>by rw[T9,PV.aS,iY r,nZ];rfl
noncomputable def cv(ns:List Int):PO:= .jW (ns.map PV.int)
theorem wU:(10:Int) ^ abf 18=1000000000000000000:=by decide +kernel
theorem sE:(10:Int) ^ 18=1000000000000000000:=by decide +kernel
theorem AW{ns:List Int}{i:Int}(h0:0<=i)(h1:i < ns.length): ∃ v:Int,gA (ns.map PV.int) i=TK (.int v):=by
 obtain⟨n,en⟩:=Wv h0;subst en;have hn:n < ns.length:=by omega
 exact⟨ns[n],P3.gK rfl (by rw[U1,UI hn];rfl)⟩
section
variable{pg:Tb}(T:cx pg)
include T
theorem Gx(j:Nat){h:PH}{r:Nat}{ns:List Int}(hr:h[r]?=TK (cv ns))(hn:ns.length<=63){k m:Int}(k0:0<=k)(k9:k<=1000000)(m0:0 < m)(m9:m<=1000000000): ∃ v:Int,0<=v/\v < m/\run pg (j+1) "_law_draw" [.ref r,.int k,.int m] h= .ok (.int v) h:=by
 have fin1: ∀ v:Int,run pg (j+1) "_law_draw" [.ref r,.int k,.int m] h= .ok (.int (v % m)) h-> ∃ v:Int,0<=v/\v < m/\run pg (j+1) "_law_draw" [.ref r,.int k,.int m] h= .ok (.int v) h:=λv e=>⟨_,W7 _ (by omega),Xa _ m0,e⟩
 have key: ∃ v:Int,run pg (j+1) "_law_draw" [.ref r,.int k,.int m] h= .ok (.int (v % m)) h:=by
  rw[run_eq T.tm rfl];by_cases z:ns.length=0
  . have hz: ¬ (0:Int) < (ns.length:Int):=by omega
    have z18: ¬ (1000000000000000000:Int)<=0:=by omega
    simp? [cI,dP,hr,cv,TV,hz,wU,sE,z18,mU];exact⟨_,rfl⟩
  . have hz:(0:Int) < (ns.length:Int):=by omega
    obtain⟨v,hv⟩:=AW (ns:=ns) (i:=k % ns.length) (W7 _ (by omega)) (Xa _ hz);have loop: ∀(xs xs0:List PV)(a:Int)(o:Option PV),∃(b:Int)(o':Option PV),bh ⟨TL,xs0⟩ (bc (gN 5) (ax (aq jB (aa 4) (eI 1000003)) (gN 4)) (run pg j)) xs [TK (.ref r),TK (.int k),TK (.int m),TK (.int v),TK (.int a),o,TL] h= .ok (.nx [TK (.ref r),TK (.int k),TK (.int m),TK (.int v),TK (.int b),o',TL]) h:=by
     intro xs xs0
     induction xs with
     | nil=>intro a o;exact⟨a,o,rfl⟩
     | cons x xs ih =>
      intro a o
      obtain⟨b,o',e⟩:=ih (a / 1000003) (TK x)
      refine⟨b,o',?_⟩
      rw[bW]
      simp? [aU,e]
    have hm60:0<=k / (ns.length:Int) % 60/\k / (ns.length:Int) % 60 < 60:=⟨W7 _ (by omega),Xa _ (by omega)⟩
    by_cases z18:(1000000000000000000:Int)<=v
    . obtain⟨b,o',e⟩:=loop (aP 0 (abf (k / (ns.length:Int) % 60))) (aP 0 (abf (k / (ns.length:Int) % 60))) v TL;by_cases b0:0 < b
      . simp? [cI,dP,hr,cv,TV,hz,hv,wU,sE,z18,e,b0,mU];exact⟨_,rfl⟩
      . simp? [cI,dP,hr,cv,TV,hz,hv,wU,sE,z18,e,b0,mU];exact⟨_,rfl⟩
    . simp? [cI,dP,hr,cv,TV,hz,hv,wU,sE,z18,mU];exact⟨_,rfl⟩
 obtain⟨v,e⟩:=key;exact fin1 v e
end
noncomputable def bK(k:Int)(o:Option Int):PO:= .dct ((.inr "script",.ref 0)::(.inr "k",.int k)::(match o with | none=>[] | some l=>[(.inr "left",.int l)]))
theorem EO{k:Int}{o:Option Int}{n:Nat}(hn:0 < n):(bK k o).dH n=true:=by cases o<;>simp[bK,PO.dH,PV.eA,PV.dH,hn]
theorem eG{ns:List Int}{k k':Int}{o o':Option Int}{g g':PH}{v:PV}(hv:v.flat=true):settle (cv ns::bK k o::g) v (cv ns::bK k' o'::(g++g'))= .ok v (cv ns::bK k' o'::g) :=
 js (h:=cv ns::bK k o::g) (g:=g') (i:=1) (o:=bK k o) (o':=bK k' o') hv rfl rfl (EO (by simp))
theorem uQ{ns:List Int}{k k':Int}{o o':Option Int}{g:PH}{v:PV}:settle (cv ns::bK k o::g) v (cv ns::bK k' o'::g)= .ok v (cv ns::bK k' o'::g) :=
 dN (h:=cv ns::bK k o::g) (i:=1) (o:=bK k o) (o':=bK k' o')
section
variable{ns:List Int}{k l v:Int}{o:Option Int}{g:PH}
theorem NQ{h:PH}:JM (.str "k") h (TK (bK k o))= .ok (.int k) h:=by cases o<;>simp[bK,AI,bt,aT,mP]
theorem wk{h:PH}:JM (.str "script") h (TK (bK k o))= .ok (.ref 0) h:=by cases o<;>simp[bK,AI,bt,aT,mP]
theorem iN{h:PH}:JM (.str "left") h (TK (bK k (TK l)))= .ok (.int l) h:=by simp[bK,AI,bt,aT,mP]
theorem Om{h:PH}{n:Nat}:E4 n (.str "k") (.int v) h (TK (bK k o))= .ok () (h.set n (bK v o)):=by
 unfold bK;rw[Cw (by cases o<;>simp)];cases o<;>simp[iL,aT]
theorem nY{h:PH}{n:Nat}:E4 n (.str "left") (.int v) h (TK (bK k o))= .ok () (h.set n (bK k (TK v))):=by
 unfold bK;rw[Cw (by cases o<;>simp)];cases o<;>simp[iL,aT]
end
section
variable{pg:Tb}(T:cx pg)
include T
theorem bJ(j:Nat)(g:PH){ns:List Int}(hn:ns.length<=63)(o:Option Int){k:Int}(m:Int)(k0:0<=k)(k9:k < 1000000)(m0:0 < m)(m9:m<=1000000000): ∃ v:Int,0<=v/\v < m/\run pg (j+2) "_law_pick" [.ref 1,.int m] (cv ns::bK k o::g)= .ok (.int v) (cv ns::bK (k+1) o::g):=by
 obtain⟨v,h0,h1,e⟩:=Gx T j (h:=cv ns::bK (k+1) o::g) (r:=0) rfl hn (k:=k+1) (by omega) (by omega) m0 m9;refine⟨v,h0,h1,?_⟩;rw[run_eq T.tH rfl];simp? [fF,lL,NQ,Om,wk,e,uQ]
end
noncomputable def bS:Nat->Int
 | 0=>3
 | d+1=>2+2*bS d
theorem zv: ∀ d,3<=bS d
 | 0=>by decide
 | d+1=>by have:=zv d;unfold bS;omega
theorem Fm(h0:0<=v)(h1:v < 5): ∃ o:Bo,gA [PV.str "add",.str "sub",.str "mul",.str "less",.str "same"] v=TK (.str o.w):=by
 have:v=0\/v=1\/v=2\/v=3\/v=4:=by omega
 rcases this with rfl | rfl | rfl | rfl | rfl
 . exact⟨.add,rfl⟩
 . exact⟨.sub,rfl⟩
 . exact⟨.mul,rfl⟩
 . exact⟨.less,rfl⟩
 . exact⟨.same,rfl⟩
theorem MW{v w:Int}(h0:0<=v)(h1:v < 5)(w0:0<=w)(w1:w < 1000): ∃ n:Int,0<=n/\n<=999/\gA [PV.int 0,.int 1,.int 2,.int 999,.int w] v=TK (.int n):=by
 have:v=0\/v=1\/v=2\/v=3\/v=4:=by omega
 rcases this with rfl | rfl | rfl | rfl | rfl
 . exact⟨0,by decide,by decide,rfl⟩
 . exact⟨1,by decide,by decide,rfl⟩
 . exact⟨2,by decide,by decide,rfl⟩
 . exact⟨999,by decide,by decide,rfl⟩
 . exact⟨w,w0,by omega,rfl⟩
theorem ju{ss:List Str}{v:Int}(h0:0<=v)(h1:v < ss.length): ∃ x∈ss,gA (ss.map PV.str) v=TK (.str x):=by
 obtain⟨n,en⟩:=Wv h0;subst en;have hn:n < ss.length:=by omega
 exact⟨ss[n],aaI hn,P3.gK rfl (by rw[U1,UI hn];rfl)⟩
section
variable{pg:Tb}(T:cx pg)
include T
theorem xa(j:Nat){ns:List Int}(hn:ns.length<=63){np:Nat}{ps:List Str}(p0:0 < ps.length)(p9:ps.length<=1000)(hq: ∀ x∈ps,aL x)(deep w k:Int)(o:Option Int)(g:PH)(k0:0<=k)(k9:k+2<=1000000)(hp:g[np]?=TK (.lst (ps.map PV.str)))(u v:Option PV) :
  ∃(e:Sm)(k':Int)(g':PH),(e.ok/\e.cn=1)/\e.dp=1/\k<=k'/\k'<=k+2/\ah (cX (aX (aq qj (aq g9 (aa 3) (eI 2)) (eI 0))) (aQ (bA (ab (eS "num") (ab (aq bu (ay (ab (eI 0) (ab (eI 1) (ab (eI 2) (ab (eI 999) (ab (ag "_law_pick" (a2 (aa 0) (eI 1000))) af)))))) (ag "_law_pick" (a2 (aa 0) (eI 5)))) af)))) c8)
  (aQ (bA (ab (eS "of") (ab (aq bu (aa 1) (ag "_law_pick" (ab (aa 0) (ab (eB cN (a1 (aa 1))) af)))) af)))) (run pg (j+2)) [TK (.ref 1),TK (.ref (np+1+1)),TK (.int deep),TK (.int w),u,v] (cv ns::bK k o::g)= .ok (.rt (cz e)) (cv ns::bK k' o::(g++g')):=by
 by_cases z:w % 2=0
 . obtain⟨a,a0,a1,ea⟩:=bJ T j g hn o (k:=k) 1000 k0 (by omega) (by decide) (by decide);obtain⟨b,b0,b1,eb⟩:=bJ T j (g++[.lst [.int 0,.int 1,.int 2,.int 999,.int a]]) hn o (k:=k+1) 5 (by omega) (by omega) (by decide) (by decide);obtain⟨n,n0,n1,en⟩:=MW b0 b1 a0 a1;refine⟨.num n,k+1+1,[.lst [.int 0,.int 1,.int 2,.int 999,.int a]],⟨⟨n0,n1⟩,rfl⟩,rfl,by omega,by omega,?_⟩;simp? [z,ea,eb,en,cz]
 . obtain⟨a,a0,a1,ea⟩:=bJ T j g hn o (k:=k) ps.length k0 (by omega) (by omega) (by omega);obtain⟨x,hx,ex⟩:=ju a0 a1;refine⟨.of x,k+1,[],⟨hq x hx,rfl⟩,rfl,by omega,by omega,?_⟩;simp? [z,ea,hp,ex,cz,TV,Ui]
theorem yg(j:Nat){ns:List Int}(hn:ns.length<=63){np:Nat}{ps:List Str}(p0:0 < ps.length)(p9:ps.length<=1000)(hq: ∀ x∈ps,aL x): ∀(d:Nat)(deep:Int),deep+d=5-> ∀(k l:Int)(g:PH),0<=k->k+bS d<=1000000->0<=l->g[np]?=TK (.lst (ps.map PV.str)) ->
  ∃(e:Sm)(k' l':Int),(e.ok/\0<=l'/\(e.cn:Int)+l'<=1+l)/\e.dp<=d+1/\k<=k'/\k'<=k+bS d/\run pg (j+d+3) "_law_sum_in" [.ref 1,.ref (np+1+1),.int deep] (cv ns::bK k (TK l)::g)= .ok (cz e) (cv ns::bK k' (TK l')::g):=by
 intro d
 induction d with
 | zero =>
  intro deep hd k l g k0 k9 ll hp
  have hd5: ¬ deep < 5:=by omega
  simp only[bS] at k9
  obtain⟨w,w0,w1,ew⟩:=bJ T j g hn (TK l) (k:=k) 9 k0 (by omega) (by decide) (by decide)
  obtain⟨e,k',g',h1,h2,h3,h4,h5⟩:=xa T j hn p0 p9 hq deep w (k+1) (TK l) g (by omega) (by omega) hp TL TL
  refine⟨e,k',l,⟨h1.1,ll,by have:=h1.2;omega⟩,by omega,by omega,by simp only[bS];omega,?_⟩
  rw[run_eq T.dJ rfl]
  simp? [br,bM,Nat.add_zero,ew,hd5,↓h5,eG (cg e)]
 | succ d ih =>
  intro deep hd k l g k0 k9 ll hp
  have hd5:deep < 5:=by omega
  have b3:=zv d
  simp only[bS] at k9
  have hlt:=bB hp
  obtain⟨w,w0,w1,ew⟩:=bJ T (j+d+1) g hn (TK l) (k:=k) 9 k0 (by omega) (by decide) (by decide)
  by_cases c1:2 < w/\1 < l
  . obtain⟨a,a0,a1,ea⟩:=bJ T (j+d+1) (g++[.lst [.str "add",.str "sub",.str "mul",.str "less",.str "same"]]) hn (TK (l - 2)) (k:=k+1) 5 (by omega) (by omega) (by decide) (by decide);obtain⟨o,eo⟩:=Fm a0 a1;have hp':(g++[.lst [.str "add",.str "sub",.str "mul",.str "less",.str "same"]])[np]?=TK (.lst (ps.map PV.str)):=by rw[aR hlt];exact hp
    obtain⟨e1,k1,l1,q1,q2,q3,q4,q5⟩:=ih (deep+1) (by omega) (k+1+1) (l - 2) _ (by omega) (by omega) (by omega) hp';obtain⟨e2,k2,l2,r1,r2,r3,r4,r5⟩:=ih (deep+1) (by omega) k1 l1 _ (by omega) (by omega) q1.2.1 hp';refine⟨.bin o e1 e2,k2,l2,⟨⟨q1.1,r1.1⟩,r1.2.1,by have:=q1.2.2;have:=r1.2.2;unfold Sm.cn;omega⟩,by unfold Sm.dp;omega,by omega,by simp only[bS];omega,?_⟩;rw[show j+(d+1)+3=(j+d+3)+1 by omega,run_eq T.dJ rfl];have c11:=c1.1;have c12:=c1.2;simp? [br,bM,ew,hd5,c11,c12,iN,nY,ea,eo,q5,r5];exact eG (v:=cz (.bin o e1 e2)) (cg _)
  . by_cases c2:w=2/\0 < l
    . obtain⟨c21,c22⟩:=c2;subst c21;obtain⟨e1,k1,l1,q1,q2,q3,q4,q5⟩:=ih (deep+1) (by omega) (k+1) (l - 1) g (by omega) (by omega) (by omega) hp;refine⟨.un e1,k1,l1,⟨q1.1,q1.2.1,by have:=q1.2.2;unfold Sm.cn;omega⟩,by unfold Sm.dp;omega,by omega,by simp only[bS];omega,?_⟩;rw[show j+(d+1)+3=(j+d+3)+1 by omega,run_eq T.dJ rfl];simp? [br,bM,ew,hd5,c22,iN,nY,q5];exact uQ (v:=cz (.un e1))
    . obtain⟨e,k',g',h1,h2,h3,h4,h5⟩:=xa T (j+d+1) hn p0 p9 hq deep w (k+1) (TK l) g (by omega) (by omega) hp TL TL;refine⟨e,k',l,⟨h1.1,ll,by have:=h1.2;omega⟩,by omega,by omega,by simp only[bS];omega,?_⟩;rw[show j+(d+1)+3=(j+d+3)+1 by omega,run_eq T.dJ rfl];by_cases d1:2 < w
      . have d2: ¬ 1 < l:=λz=>c1 ⟨d1,z⟩;have d3: ¬ w=2:=by omega
        simp? [br,bM,ew,hd5,d1,d2,d3,iN,↓h5,eG (cg e)]
      . by_cases d3:w=2
        . subst d3;have d2: ¬ 0 < l:=λz=>c2 ⟨rfl,z⟩;simp? [br,bM,ew,hd5,d1,d2,iN,↓h5,eG (cg e)]
        . simp? [br,bM,ew,hd5,d1,d3,iN,↓h5,eG (cg e)]
omit T in
theorem EA{v:Int}(h0:0<=v)(h1:v < 4): ∃ n:Int,(0<=n/\n<=11)/\gA [PV.int 0,.int 2,.int 5,.int 11] v=TK (.int n):=by
 have:v=0\/v=1\/v=2\/v=3:=by omega
 rcases this with rfl | rfl | rfl | rfl<;>exact⟨_,⟨by decide,by decide⟩,rfl⟩
theorem oO(j:Nat){ns:List Int}(hn:ns.length<=63){np:Nat}{ps:List Str}(p0:0 < ps.length)(p9:ps.length<=1000)(hq: ∀ x∈ps,aL x)(k:Int)(o:Option Int)(g:PH)(k0:0<=k)(k9:k+80<=1000000)(hp:g[np]?=TK (.lst (ps.map PV.str))) :
  ∃(e:Sm)(k':Int)(o':Option Int),kr e/\k<=k'/\k'<=k+80/\run pg (j+8) "_law_sum" [.ref 1,.ref (np+1+1)] (cv ns::bK k o::g)= .ok (cz e) (cv ns::bK k' o'::g):=by
 obtain⟨a,a0,a1,ea⟩:=bJ T (j+5) (g++[.lst [.int 0,.int 2,.int 5,.int 11]]) hn o (k:=k) 4 k0 (by omega) (by decide) (by decide);obtain⟨l,ll,el⟩:=EA a0 a1;have hp':(g++[.lst [.int 0,.int 2,.int 5,.int 11]])[np]?=TK (.lst (ps.map PV.str)):=by rw[aR (bB hp)];exact hp
 have b4:bS 4=78:=by decide
 obtain⟨e,k',l',q1,q2,q3,q4,q5⟩:=yg T j hn p0 p9 hq 4 1 (by decide) (k+1) l _ (by omega) (by omega) ll.1 hp';refine⟨e,k',TK l',⟨q1.1,by omega,by have:=q1.2;omega⟩,by omega,by omega,?_⟩;rw[run_eq T.u9 rfl];simp? [gM,om,ea,el,nY,q5,eG (cg e)]
end
def jy(s1 s2 s3 s4:List Str)(x:Str):Prop:=x= "let" \/x= "leap" \/x= "clock" \/x= "lot" \/(s1≠[]/\(x= "get" \/x= "put"))\/(s2≠[]/\(x= "take" \/x= "free"))\/(s3≠[]/\(x= "send" \/x= "fetch"))\/(s4≠[]/\(x= "say" \/x= "hear"))
theorem Ae(c:CF){H:PH}{nd cc q b:Nat}{nm:List (Key × PV)}{ks qs ss:List Str}{sort:Str}(e1:H[nd]?=TK (.dct nm))(e2:bt nm (.inr sort)=TK (.ref b))(e3:H[b]?=TK (.lst (ss.map PV.str)))(e4:H[cc]?=TK (.lst (ks.map PV.str)))(e5:H[q]?=TK (.lst (qs.map PV.str)))
  (hs: ∀ x∈ss,UG x=true) (hl:ks.length+qs.length+qs.length<=1000) (a0 a2 a3 u5 u6 n7 n8 n9 n10:Option PV) :
  ∃ g' c',(H++g')[c']?=TK (.lst ((if ss=[] then ks else ks++qs++qs).map PV.str))/\bc (gT 2 (ao (gN 5) (ao (gN 6) bE))) (cX (aX (aq pD (aq bu (aa 1) (aa 5)) (ay af))) (ax (aq aA (aq aA (aa 4) (aa 6)) (aa 6)) (gN 4)) c8) c (.tup [.str sort,.ref q]) [a0,TK (.ref nd),a2,a3,TK (.ref cc),u5,u6,n7,n8,n9,n10] H =
   .ok (.nx [a0,TK (.ref nd),a2,a3,TK (.ref c'),TK (.str sort),TK (.ref q),n7,n8,n9,n10]) (H++g'):=by
 have l3:=bB e3;have l4:=bB e4;have l5:=bB e5;have ne:=ne_nil (h:=H++[.lst []]) (n:=b) (m:=H.length) (ss:=ss) (by rw[aR l3];exact e3) aM hs;by_cases z:ss=[]
 . refine⟨[.lst []],cc,by rw[if_pos z,aR l4];exact e4,?_⟩;simp? [e1,e2,ne,z]
 . have ad1:=gE (h:=H++[.lst []]) (n:=cc) (m:=q) (by rw[aR l4];exact e4) (by rw[aR l5];exact e5) (by rw[TV,TV];omega);have ad2:aA (.ref (H.length+(0+1))) (.ref q) (H++[.lst [],.lst (ks.map PV.str++qs.map PV.str)])= .ok (.ref (H.length+(0+1+1))) (H++[.lst [],.lst (ks.map PV.str++qs.map PV.str),.lst (ks.map PV.str++qs.map PV.str++qs.map PV.str)]):=by
    have:=gE (h:=H++[.lst [],.lst (ks.map PV.str++qs.map PV.str)]) (n:=H.length+(0+1)) (m:=q) (xs:=ks.map PV.str++qs.map PV.str) (ys:=qs.map PV.str) (by rw[aZ];rfl) (by rw[aR l5];exact e5) (by rw[TX,TV,TV];omega);simpa using this
   refine⟨[.lst [],.lst (ks.map PV.str++qs.map PV.str),.lst (ks.map PV.str++qs.map PV.str++qs.map PV.str)],H.length+(0+1+1),by rw[if_neg z,aZ,US,US];rfl,?_⟩;simp? [e1,e2,ne,z,ad1,ad2]
structure Named(H:PH)(nd:Nat)(s1 s2 s3 s4 s5:List Str):Prop where
 at_: ∃ b1 b2 b3 b4 b5:Nat,H[nd]?=TK (.dct [(.inr "box",.ref b1),(.inr "lock",.ref b2),(.inr "lane",.ref b3),(.inr "door",.ref b4),(.inr "hand",.ref b5)]) /\
  H[b1]?=TK (.lst (s1.map PV.str))/\H[b2]?=TK (.lst (s2.map PV.str))/\H[b3]?=TK (.lst (s3.map PV.str))/\H[b4]?=TK (.lst (s4.map PV.str))/\H[b5]?=TK (.lst (s5.map PV.str))
 ok:(∀ x∈s1,aL x)/\(∀ x∈s2,aL x)/\(∀ x∈s3,aL x)/\(∀ x∈s4,aL x)
 le:s1.length<=4/\s2.length<=4/\s3.length<=4/\s4.length<=4/\s5.length<=4
theorem i8{b1 b2 b3 b4 b5:Nat}:bt [((.inr "box" :Key),PV.ref b1),(.inr "lock",.ref b2),(.inr "lane",.ref b3),(.inr "door",.ref b4),(.inr "hand",.ref b5)] (.inr "box")=TK (.ref b1) /\
  bt [((.inr "box" :Key),PV.ref b1),(.inr "lock",.ref b2),(.inr "lane",.ref b3),(.inr "door",.ref b4),(.inr "hand",.ref b5)] (.inr "lock")=TK (.ref b2) /\
  bt [((.inr "box" :Key),PV.ref b1),(.inr "lock",.ref b2),(.inr "lane",.ref b3),(.inr "door",.ref b4),(.inr "hand",.ref b5)] (.inr "lane")=TK (.ref b3) /\
  bt [((.inr "box" :Key),PV.ref b1),(.inr "lock",.ref b2),(.inr "lane",.ref b3),(.inr "door",.ref b4),(.inr "hand",.ref b5)] (.inr "door")=TK (.ref b4) /\
  bt [((.inr "box" :Key),PV.ref b1),(.inr "lock",.ref b2),(.inr "lane",.ref b3),(.inr "door",.ref b4),(.inr "hand",.ref b5)] (.inr "hand")=TK (.ref b5):=by
 refine⟨?_,?_,?_,?_,?_⟩<;>simp[bt,aT]
theorem rq{p:Prop}[Decidable p]{ks qs:List Str}{n:Nat}(h:ks.length+qs.length+qs.length<=n):(if p then ks else ks++qs++qs).length<=n:=by
 split
 . omega
 . simp only[TX];omega
theorem sA{p:Prop}[Decidable p]{ks qs:List Str}{x:Str}(h:x∈(if p then ks else ks++qs++qs)):x∈ks\/(¬ p/\x∈qs):=by
 split at h
 . exact .inl h
 . rename_i z;rcases Uz.1 h with h | h
   . rcases Uz.1 h with h | h
     . exact .inl h
     . exact .inr ⟨z,h⟩
   . exact .inr ⟨z,h⟩
theorem zZ(c : CF){H : PH}{nd : Nat}{s1 s2 s3 s4 s5 : List Str}(hn : Named H nd s1 s2 s3 s4 s5)(A0 A2 A3 n7 n8 n9 n10 : Option PV) :
    ∃ (g' : PH) (c' : Nat) (ks : List Str) (u5 u6 : PV), (H ++ g')[c']? = TK (.lst (ks.map PV.str)) /\ 0 < ks.length /\ ks.length <= 100 /\ (∀ x ∈ ks, jy s1 s2 s3 s4 x) /\ ∀ rest : MS,
    ah (ax (ay (ab (eS "let") (ab (eS "let") (a3 (eS "leap") (eS "clock") (eS "lot"))))) (gN 4))
    (ah (d6 (ef (ay (ab (bA (ab (eS "box") (ab (ay (a2 (eS "get") (eS "put"))) af))) (ab (bA (ab (eS "lock") (ab (ay (a2 (eS "take") (eS "free"))) af))) (ab (bA (ab (eS "lane") (ab (ay (a2 (eS "send") (eS "fetch"))) af))) af))))) (gT 2 (ao (gN 5) (ao (gN 6) bE))) (cX (aX (aq pD (aq bu (aa 1) (aa 5)) (ay af))) (ax (aq aA (aq aA (aa 4) (aa 6)) (aa 6)) (gN 4)) c8))
    (ah (cX (aX (aq pD (aq bu (aa 1) (eS "door")) (ay af))) (ax (aq aA (aa 4) (ay (a3 (eS "say") (eS "hear") (eS "say")))) (gN 4)) c8)
    rest)) c [A0, TK (.ref nd), A2, A3, TL, TL, TL, n7, n8, n9, n10] H = rest c [A0, TK (.ref nd), A2, A3, TK (.ref c'), TK u5, TK u6, n7, n8, n9, n10] (H ++ g') := by
  obtain ⟨b1, b2, b3, b4, b5, e0, e1, e2, e3, e4, e5⟩ := hn.at_;obtain ⟨o1, o2, o3, o4⟩ : (∀ x ∈ s1, UG x = true) /\ (∀ x ∈ s2, UG x = true) /\ (∀ x ∈ s3, UG x = true) /\ (∀ x ∈ s4, UG x = true) := ⟨λx m => (hn.ok.1 x m).1, λx m => (hn.ok.2.1 x m).1, λx m => (hn.ok.2.2.1 x m).1, λx m => (hn.ok.2.2.2 x m).1⟩
  obtain ⟨w1, w2, w3, w4, w5⟩ := i8 (b1 := b1) (b2 := b2) (b3 := b3) (b4 := b4) (b5 := b5)
  let k0 : List Str := ["let", "let", "leap", "clock", "lot"]
  let G : PH := [.lst (k0.map PV.str), .lst [.str "get", .str "put"], .lst [.str "take", .str "free"], .lst [.str "send", .str "fetch"],
    .lst [.tup [.str "box", .ref (H.length + 1)], .tup [.str "lock", .ref (H.length + 2)], .tup [.str "lane", .ref (H.length + 3)]]]
  have old : ∀{n : Nat}{o : PO}(g : PH), H[n]? = TK o -> (H ++ g)[n]? = TK o := λg e => (aR (bB e)).trans e;have oldG : ∀{n : Nat}{o : PO}(g : PH), (H ++ G)[n]? = TK o -> (H ++ (G ++ g))[n]? = TK o := λg e => by rw [<- TZ]; exact (aR (bB e)).trans e
  have G0 : (H ++ G)[H.length]? = TK (.lst (k0.map PV.str)) := aM;have G1 : (H ++ G)[H.length + 1]? = TK (.lst ((["get", "put"] : List Str).map PV.str)) := aZ;have G2 : (H ++ G)[H.length + 2]? = TK (.lst ((["take", "free"] : List Str).map PV.str)) := aZ;have G3 : (H ++ G)[H.length + 3]? = TK (.lst ((["send", "fetch"] : List Str).map PV.str)) := aZ;have G4 : (H ++ G)[H.length + 4]? = TK (.lst [.tup [.str "box", .ref (H.length + 1)], .tup [.str "lock", .ref (H.length + 2)], .tup [.str "lane", .ref (H.length + 3)]]) := aZ;have fin1 : ∀ g : PH, pE.iw ⟨TK (H.length + 4), [.tup [.str "box", .ref (H.length + 1)], .tup [.str "lock", .ref (H.length + 2)], .tup [.str "lane", .ref (H.length + 3)]]⟩ (H ++ (G ++ g)) = true := λg => by
    unfold pE.iw;simp only [oldG g G4, true_or, decide_true]
  obtain ⟨g1, c1, f1, st1⟩ := Ae c (H := H ++ G) (nd := nd) (cc := H.length) (q := H.length + 1) (ks := k0) (qs := ["get", "put"]) (sort := "box") (old G e0) w1 (old G e1) G0 G1 o1 (by decide) A0 A2 A3 TL TL n7 n8 n9 n10;generalize hk1 : (if s1 = [] then k0 else k0 ++ (["get", "put"] : List Str) ++ (["get", "put"] : List Str)) = k1 at f1;have l1 : k1.length <= 20 := by rw [<- hk1]; exact rq (by decide)
  obtain ⟨g2, c2, f2, st2⟩ := Ae c (H := H ++ G ++ g1) (nd := nd) (cc := c1) (q := H.length + 2) (ks := k1) (qs := ["take", "free"]) (sort := "lock") (by rw [TZ]; exact old _ e0) w2 (by rw [TZ]; exact old _ e2) f1 (by rw [TZ]; exact oldG g1 G2) o2 (by show k1.length + 2 + 2 <= 1000; omega) A0 A2 A3 (TK (.str "box")) (TK (.ref (H.length + 1))) n7 n8 n9 n10;generalize hk2 : (if s2 = [] then k1 else k1 ++ (["take", "free"] : List Str) ++ (["take", "free"] : List Str)) = k2 at f2;have l2 : k2.length <= 30 := by rw [<- hk2]; exact rq (by show k1.length + 2 + 2 <= 30; omega)
  obtain ⟨g3, c3, f3, st3⟩ := Ae c (H := H ++ G ++ g1 ++ g2) (nd := nd) (cc := c2) (q := H.length + 3) (ks := k2) (qs := ["send", "fetch"]) (sort := "lane") (by rw [TZ, TZ]; exact old _ e0) w3 (by rw [TZ, TZ]; exact old _ e3) f2 (by rw [TZ, TZ]; exact oldG _ G3) o3 (by show k2.length + 2 + 2 <= 1000; omega) A0 A2 A3 (TK (.str "lock")) (TK (.ref (H.length + 2))) n7 n8 n9 n10;generalize hk3 : (if s3 = [] then k2 else k2 ++ (["send", "fetch"] : List Str) ++ (["send", "fetch"] : List Str)) = k3 at f3;have l3 : k3.length <= 40 := by rw [<- hk3]; exact rq (by show k2.length + 2 + 2 <= 40; omega)
  have in0 : ∀ x ∈ k0, jy s1 s2 s3 s4 x := λx m => by
    rcases Uh.mp m with e | m
    . exact .inl e
    rcases Uh.mp m with e | m
    . exact .inl e
    rcases Uh.mp m with e | m
    . exact .inr (.inl e)
    rcases Uh.mp m with e | m
    . exact .inr (.inr (.inl e))
    rcases Uh.mp m with e | m
    . exact .inr (.inr (.inr (.inl e)))
    . cases m
  have two : ∀{x a b : Str}, x ∈ [a, b] -> x = a ∨ x = b := λm => by simpa using m
  have in1 : ∀ x ∈ k1, jy s1 s2 s3 s4 x := λx m => by
    rw [<- hk1] at m;rcases sA m with m | ⟨z, m⟩
    . exact in0 x m
    . exact .inr (.inr (.inr (.inr (.inl ⟨z, two m⟩))))
  have in2 : ∀ x ∈ k2, jy s1 s2 s3 s4 x := λx m => by
    rw [<- hk2] at m;rcases sA m with m | ⟨z, m⟩
    . exact in1 x m
    . exact .inr (.inr (.inr (.inr (.inr (.inl ⟨z, two m⟩)))))
  have in3 : ∀ x ∈ k3, jy s1 s2 s3 s4 x := λx m => by
    rw [<- hk3] at m;rcases sA m with m | ⟨z, m⟩
    . exact in2 x m
    . exact .inr (.inr (.inr (.inr (.inr (.inr (.inl ⟨z, two m⟩))))))
  have p1 : 0 < k1.length := by rw [<- hk1]; split <;> simp [k0]
  have p2 : 0 < k2.length := by
                                   rw [<- hk2]; split
                                   . exact p1
                                   . simp only [TX, Uc]; omega
  have p3 : 0 < k3.length := by
                                   rw [<- hk3]; split
                                   . exact p2
                                   . simp only [TX, Uc]; omega
  have lp : bh ⟨TK (H.length + 4), [.tup [.str "box", .ref (H.length + 1)], .tup [.str "lock", .ref (H.length + 2)], .tup [.str "lane", .ref (H.length + 3)]]⟩ (bc (gT 2 (ao (gN 5) (ao (gN 6) bE))) (cX (aX (aq pD (aq bu (aa 1) (aa 5)) (ay af))) (ax (aq aA (aq aA (aa 4) (aa 6)) (aa 6)) (gN 4)) c8) c) [.tup [.str "box", .ref (H.length + 1)], .tup [.str "lock", .ref (H.length + 2)], .tup [.str "lane", .ref (H.length + 3)]]
      [A0, TK (.ref nd), A2, A3, TK (.ref H.length), TL, TL, n7, n8, n9, n10] (H ++ G) = .ok (.nx [A0, TK (.ref nd), A2, A3, TK (.ref c3), TK (.str "lane"), TK (.ref (H.length + 3)), n7, n8, n9, n10]) (H ++ (G ++ (g1 ++ (g2 ++ g3)))) := by
    have z0 := fin1 [];rw [Ui] at z0;rw [iS z0, st1, aF, aU, TZ, iS (fin1 g1)];rw [TZ] at st2 st3;rw [st2, aF, aU, TZ, TZ, iS (fin1 (g1 ++ g2))];simp only [TZ] at st3;rw [st3, aF, aU]
    try simp only [TZ]
    rw [nc (fin1 (g1 ++ (g2 ++ g3)))]
  simp only [TZ] at f3;have l4 := bB e4;have ev0 : ∀ rest' : MS, ah (ax (ay (ab (eS "let") (ab (eS "let") (a3 (eS "leap") (eS "clock") (eS "lot"))))) (gN 4))
    (ah (d6 (ef (ay (ab (bA (ab (eS "box") (ab (ay (a2 (eS "get") (eS "put"))) af))) (ab (bA (ab (eS "lock") (ab (ay (a2 (eS "take") (eS "free"))) af))) (ab (bA (ab (eS "lane") (ab (ay (a2 (eS "send") (eS "fetch"))) af))) af))))) (gT 2 (ao (gN 5) (ao (gN 6) bE))) (cX (aX (aq pD (aq bu (aa 1) (aa 5)) (ay af))) (ax (aq aA (aq aA (aa 4) (aa 6)) (aa 6)) (gN 4)) c8))
    rest') c [A0, TK (.ref nd), A2, A3, TL, TL, TL, n7, n8, n9, n10] H = rest' c [A0, TK (.ref nd), A2, A3, TK (.ref c3), TK (.str "lane"), TK (.ref (H.length + 3)), n7, n8, n9, n10] (H ++ (G ++ (g1 ++ (g2 ++ g3)))) := λrest' => by
    simp? (disch := omega) only [UE]
    exact (congrArg (λr => RV.bind r (yn rest' c)) lp).trans rfl
  generalize hJ : H ++ (G ++ (g1 ++ (g2 ++ g3))) = J at f3 ev0;have oJ : ∀{n : Nat}{o : PO}, H[n]? = TK o -> J[n]? = TK o := λe => by rw [<- hJ]; exact old _ e
  have ne := ne_nil (h := J ++ [.lst []]) (n := b4) (m := J.length) (ss := s4) (by rw [aR (bB (oJ e4))]; exact oJ e4) aM o4;by_cases z : s4 = []
  . refine ⟨G ++ (g1 ++ (g2 ++ g3)) ++ [.lst []], c3, k3, .str "lane", .ref (H.length + 3), ?_, p3, by omega, in3, λrest => ?_⟩
    . rw [<- TZ, hJ, aR (bB f3)]; exact f3
    . rw [ev0, <- TZ, hJ];simp? (disch := omega) only [oJ e0, w4, ne, z]
  . have ad : aA (.ref c3) (.ref (J.length + (0 + 1))) (J ++ [.lst [], .lst [.str "say", .str "hear", .str "say"]]) = .ok (.ref (J.length + (0 + 1 + 1))) (J ++ [.lst [], .lst [.str "say", .str "hear", .str "say"], .lst (k3.map PV.str ++ [.str "say", .str "hear", .str "say"])]) := by
      have := gE (h := J ++ [.lst [], .lst [.str "say", .str "hear", .str "say"]]) (n := c3) (m := J.length + (0 + 1)) (xs := k3.map PV.str) (ys := [.str "say", .str "hear", .str "say"]) (by rw [aR (bB f3)]; exact f3) (by rw [aZ]; rfl) (by rw [TV]; simp only [Uc, Vc]; omega);simpa using this
    refine ⟨G ++ (g1 ++ (g2 ++ g3)) ++ [.lst [], .lst [.str "say", .str "hear", .str "say"], .lst (k3.map PV.str ++ [.str "say", .str "hear", .str "say"])], J.length + (0 + 1 + 1), k3 ++ (["say", "hear", "say"] : List Str), .str "lane", .ref (H.length + 3), ?_, by simp, by simp; omega, λx m => ?_, λrest => ?_⟩
    . rw [<- TZ, hJ, aZ, US]; rfl
    . rcases Uz.mp m with m | m
      . exact in3 x m
      . refine .inr (.inr (.inr (.inr (.inr (.inr (.inr ⟨z, ?_⟩))))));rcases Uh.mp m with e | m
        . exact .inl e
        rcases Uh.mp m with e | m
        . exact .inr e
        rcases Uh.mp m with e | m
        . exact .inl e
        . cases m
    . rw [ev0, <- TZ, hJ];simp? (disch := omega) only [oJ e0, w4, ne, z, ad]
def d8(g:PH)(nd:Nat)(s1 s2 s3 s4 s5:List Str):Prop :=
 (∃ b1 b2 b3 b4 b5:Nat,g[nd]?=TK (.dct [(.inr "box",.ref (b1+1+1)),(.inr "lock",.ref (b2+1+1)),(.inr "lane",.ref (b3+1+1)),(.inr "door",.ref (b4+1+1)),(.inr "hand",.ref (b5+1+1))]) /\
  g[b1]?=TK (.lst (s1.map PV.str))/\g[b2]?=TK (.lst (s2.map PV.str))/\g[b3]?=TK (.lst (s3.map PV.str))/\g[b4]?=TK (.lst (s4.map PV.str))/\g[b5]?=TK (.lst (s5.map PV.str))) /\
 ((∀ x∈s1,aL x)/\(∀ x∈s2,aL x)/\(∀ x∈s3,aL x)/\(∀ x∈s4,aL x)) /\
 (s1.length<=4/\s2.length<=4/\s3.length<=4/\s4.length<=4/\s5.length<=4)
theorem d8.app{g g':PH}{nd:Nat}{s1 s2 s3 s4 s5:List Str}(h:d8 g nd s1 s2 s3 s4 s5):d8 (g++g') nd s1 s2 s3 s4 s5:=by
 obtain⟨⟨b1,b2,b3,b4,b5,e0,e1,e2,e3,e4,e5⟩,h2,h3⟩:=h;exact⟨⟨b1,b2,b3,b4,b5,(aR (bB e0)).trans e0,(aR (bB e1)).trans e1,(aR (bB e2)).trans e2,(aR (bB e3)).trans e3,(aR (bB e4)).trans e4,(aR (bB e5)).trans e5⟩,h2,h3⟩
theorem d8.up{g:PH}{nd:Nat}{s1 s2 s3 s4 s5:List Str}(h:d8 g nd s1 s2 s3 s4 s5)(x y:PO):Named (x::y::g) (nd+1+1) s1 s2 s3 s4 s5:=by
 obtain⟨⟨b1,b2,b3,b4,b5,e0,e1,e2,e3,e4,e5⟩,h2,h3⟩:=h;exact⟨⟨_,_,_,_,_,e0,e1,e2,e3,e4,e5⟩,h2,h3⟩
theorem KL{ns:List Int}{k:Int}{o:Option Int}{J:PH}{c:Nat}{xs:List PV}(h:(cv ns::bK k o::J)[c]?=TK (.lst xs)): ∃ c',c=c'+1+1/\J[c']?=TK (.lst xs):=by
 match c,h with
 | 0,h=>nomatch h
 | 1,h=>nomatch h
 | c+2,h=>exact⟨c,rfl,h⟩
noncomputable def dw:List (Key × PV):=[(.inr "get",.str "box"),(.inr "put",.str "box"),(.inr "take",.str "lock"),(.inr "free",.str "lock"),(.inr "send",.str "lane"),(.inr "fetch",.str "lane"),(.inr "say",.str "door"),(.inr "hear",.str "door")]
theorem xJ:bt dw (.inr "get")=TK (.str "box")/\bt dw (.inr "put")=TK (.str "box")/\bt dw (.inr "take")=TK (.str "lock")/\bt dw (.inr "free")=TK (.str "lock") /\
  bt dw (.inr "send")=TK (.str "lane")/\bt dw (.inr "fetch")=TK (.str "lane")/\bt dw (.inr "say")=TK (.str "door")/\bt dw (.inr "hear")=TK (.str "door"):=by
 refine⟨?_,?_,?_,?_,?_,?_,?_,?_⟩<;>simp[dw,bt,aT]
theorem uk{a b c:Str}{h:PH}:hI (.str a) (.tup [.str b,.str c]) h= .ok (.bl (decide (a=b\/a=c))) h:=by
 have:=xI (h:=h) (a:=a) (ss:=[b,c]);simpa using this
theorem sP{a b c d:Str}{h:PH}:hI (.str a) (.tup [.str b,.str c,.str d]) h= .ok (.bl (decide (a=b\/a=c\/a=d))) h:=by
 have:=xI (h:=h) (a:=a) (ss:=[b,c,d]);simpa using this
theorem LD{v w:Int}(h0:0<=v)(h1:v < 4)(w0:0<=w)(w1:w < 999): ∃ n:Int,2<=n/\n<=1000/\gA [PV.int 2,.int 3,.int 1000,.int (2+w)] v=TK (.int n):=by
 have:v=0\/v=1\/v=2\/v=3:=by omega
 rcases this with rfl | rfl | rfl | rfl
 . exact⟨2,by decide,by decide,rfl⟩
 . exact⟨3,by decide,by decide,rfl⟩
 . exact⟨1000,by decide,by decide,rfl⟩
 . exact⟨2+w,by omega,by omega,rfl⟩
section
variable{pg:Tb}(T:cx pg)
include T
theorem CZ(j:Nat){ns:List Int}(hn:ns.length<=63){np nd sd:Nat}{ps L:List Str}(p0:0 < ps.length)(p9:ps.length<=1000)(hq: ∀ x∈ps,aL x)(hL: ∀ x∈ps,x∈L){s1 s2 s3 s4 s5:List Str}{J:PH}(hN:d8 J nd s1 s2 s3 s4 s5)(hp:J[np]?=TK (.lst (ps.map PV.str)))(hs:J[sd]?=TK (.dct dw))
  (k many:Int) (o:Option Int) (k0:0<=k) (k9:k+82<=1000000) (m0:0<=many) (m9:many<=1000) {x y:Str} (hx:jy s1 s2 s3 s4 x) (hy:y∈ps) (u4 u5 u6:Option PV) :
  ∃(r:Rw)(k':Int)(o':Option Int)(g':PH),(kD L many.toNat r/\pb s1 s2 s3 s4 r)/\k<=k'/\k'<=k+82 /\
  ah (cX (mQ (aa 7) (eS "let")) (aQ (bA (ab (eS "let") (ab (aa 8) (ab (ag "_law_sum" (a2 (aa 0) (aa 2))) af))))) c8)
  (ah (cX (mQ (aa 7) (eS "leap")) (aQ (bA (ab (eS "leap") (ab (ag "_law_pick" (ab (aa 0) (ab (aq aA (aa 3) (eI 1)) af))) (ab (ag "_law_sum" (a2 (aa 0) (aa 2))) af))))) c8)
  (ah (cX (mQ (aa 7) (eS "clock")) (aQ (bA (a2 (eS "clock") (aa 8)))) c8)
  (ah (cX (mQ (aa 7) (eS "lot")) (aQ (bA (ab (eS "lot") (ab (aa 8) (ab (aq bu (ay (ab (eI 2) (ab (eI 3) (ab (eI 1000) (ab (aq aA (eI 2) (ag "_law_pick" (a2 (aa 0) (eI 999)))) af))))) (ag "_law_pick" (a2 (aa 0) (eI 4)))) af))))) c8)
  (ah (ax (aq bu (aa 1) (aq bu (aa 9) (aa 7))) (gN 6))
  (ah (ax (aq bu (aa 6) (ag "_law_pick" (ab (aa 0) (ab (eB cN (a1 (aa 6))) af)))) (gN 10))
  (ah (cX (aX (aq hI (aa 7) (bA (a2 (eS "take") (eS "free"))))) (aQ (bA (a2 (aa 7) (aa 10)))) c8)
  (ah (cX (aX (aq hI (aa 7) (bA (a3 (eS "get") (eS "fetch") (eS "hear"))))) (aQ (bA (a3 (aa 7) (aa 8) (aa 10)))) c8)
  (aQ (bA (ab (aa 7) (ab (aa 10) (ab (ag "_law_sum" (a2 (aa 0) (aa 2))) af))))))))))))
  (run pg (j+8)) [TK (.ref 1),TK (.ref (nd+1+1)),TK (.ref (np+1+1)),TK (.int many),u4,u5,u6,TK (.str x),TK (.str y),TK (.ref (sd+1+1)),TL] (cv ns::bK k o::J)= .ok (.rt (bY r)) (cv ns::bK k' o'::(J++g')):=by
 obtain⟨⟨b1,b2,b3,b4,b5,e0,e1,e2,e3,e4,e5⟩,⟨n1,n2,n3,n4⟩,⟨l1,l2,l3,l4,l5⟩⟩:=hN;obtain⟨w1,w2,w3,w4,w5⟩:=i8 (b1:=b1+1+1) (b2:=b2+1+1) (b3:=b3+1+1) (b4:=b4+1+1) (b5:=b5+1+1);obtain⟨v1,v2,v3,v4,v5,v6,v7,v8⟩:=xJ;have yL:=hL y hy;have len0: ∀{s:List Str},s≠[]->0 < s.length:=λh=>XO.mpr h;rcases hx with rfl | rfl | rfl | rfl | ⟨z,hx⟩ | ⟨z,hx⟩ | ⟨z,hx⟩ | ⟨z,hx⟩
 . obtain⟨e,k',o',q1,q2,q3,q4⟩:=oO T j hn p0 p9 hq k o J k0 (by omega) hp;refine⟨.let_ y e,k',o',[],⟨⟨yL,q1⟩,trivial⟩,q2,by omega,?_⟩;simp? [q4,bY,Rw.w,Rw.ps,Ui]
 . obtain⟨a,a0,a1,ea⟩:=bJ T (j+6) J hn o (k:=k) (many+1) k0 (by omega) (by omega) (by omega);obtain⟨e,k',o',q1,q2,q3,q4⟩:=oO T j hn p0 p9 hq (k+1) o J (by omega) (by omega) hp;refine⟨.leap a e,k',o',[],⟨⟨a0,by omega,q1⟩,trivial⟩,by omega,by omega,?_⟩;simp? [ea,q4,bY,Rw.w,Rw.ps,Ui]
 . refine⟨.clock y,k,o,[],⟨yL,trivial⟩,by omega,by omega,?_⟩;simp? [bY,Rw.w,Rw.ps,Ui]
 . obtain⟨a,a0,a1,ea⟩:=bJ T (j+6) J hn o (k:=k) 999 k0 (by omega) (by decide) (by decide);obtain⟨b,b0,b1,eb⟩:=bJ T (j+6) (J++[.lst [.int 2,.int 3,.int 1000,.int (2+a)]]) hn o (k:=k+1) 4 (by omega) (by omega) (by decide) (by decide);obtain⟨n,n0,n9,en⟩:=LD b0 b1 a0 a1;refine⟨.lot y n,k+1+1,o,[.lst [.int 2,.int 3,.int 1000,.int (2+a)]],⟨⟨yL,n0,n9⟩,trivial⟩,by omega,by omega,?_⟩;simp? [ea,eb,en,bY,Rw.w,Rw.ps]
 . have zl:=len0 z;obtain⟨a,a0,a1,ea⟩:=bJ T (j+6) J hn o (k:=k) s1.length k0 (by omega) (by omega) (by omega);obtain⟨t,ht,et⟩:=ju a0 a1;rcases hx with rfl | rfl
   . refine⟨.get y t,k+1,o,[],⟨yL,ht⟩,by omega,by omega,?_⟩;simp? [e0,hs,v1,w1,e1,TV,ea,et,uk,sP,bY,Rw.w,Rw.ps,Ui,true_or,or_true,or_false,false_or]
   . obtain⟨e,k',o',q1,q2,q3,q4⟩:=oO T j hn p0 p9 hq (k+1) o J (by omega) (by omega) hp;refine⟨.put t e,k',o',[],⟨q1,ht⟩,by omega,by omega,?_⟩;simp? [e0,hs,v2,w1,e1,TV,ea,et,uk,sP,q4,bY,Rw.w,Rw.ps,Ui,true_or,or_true,or_false,false_or]
 . have zl:=len0 z;obtain⟨a,a0,a1,ea⟩:=bJ T (j+6) J hn o (k:=k) s2.length k0 (by omega) (by omega) (by omega);obtain⟨t,ht,et⟩:=ju a0 a1;rcases hx with rfl | rfl
   . refine⟨.take t,k+1,o,[],⟨trivial,ht⟩,by omega,by omega,?_⟩;simp? [e0,hs,v3,w2,e2,TV,ea,et,uk,sP,bY,Rw.w,Rw.ps,Ui,true_or,or_true,or_false,false_or]
   . refine⟨.free t,k+1,o,[],⟨trivial,ht⟩,by omega,by omega,?_⟩;simp? [e0,hs,v4,w2,e2,TV,ea,et,uk,sP,bY,Rw.w,Rw.ps,Ui,true_or,or_true,or_false,false_or]
 . have zl:=len0 z;obtain⟨a,a0,a1,ea⟩:=bJ T (j+6) J hn o (k:=k) s3.length k0 (by omega) (by omega) (by omega);obtain⟨t,ht,et⟩:=ju a0 a1;rcases hx with rfl | rfl
   . obtain⟨e,k',o',q1,q2,q3,q4⟩:=oO T j hn p0 p9 hq (k+1) o J (by omega) (by omega) hp;refine⟨.send t e,k',o',[],⟨q1,ht⟩,by omega,by omega,?_⟩;simp? [e0,hs,v5,w3,e3,TV,ea,et,uk,sP,q4,bY,Rw.w,Rw.ps,Ui,true_or,or_true,or_false,false_or]
   . refine⟨.fetch y t,k+1,o,[],⟨yL,ht⟩,by omega,by omega,?_⟩;simp? [e0,hs,v6,w3,e3,TV,ea,et,uk,sP,bY,Rw.w,Rw.ps,Ui,true_or,or_true,or_false,false_or]
 . have zl:=len0 z;obtain⟨a,a0,a1,ea⟩:=bJ T (j+6) J hn o (k:=k) s4.length k0 (by omega) (by omega) (by omega);obtain⟨t,ht,et⟩:=ju a0 a1;rcases hx with rfl | rfl
   . obtain⟨e,k',o',q1,q2,q3,q4⟩:=oO T j hn p0 p9 hq (k+1) o J (by omega) (by omega) hp;refine⟨.say t e,k',o',[],⟨q1,ht⟩,by omega,by omega,?_⟩;simp? [e0,hs,v7,w4,e4,TV,ea,et,uk,sP,q4,bY,Rw.w,Rw.ps,Ui,true_or,or_true,or_false,false_or]
   . refine⟨.hear y t,k+1,o,[],⟨yL,ht⟩,by omega,by omega,?_⟩;simp? [e0,hs,v8,w4,e4,TV,ea,et,uk,sP,bY,Rw.w,Rw.ps,Ui,true_or,or_true,or_false,false_or]
end
noncomputable def bX:List (Key × PV):=[(.inr "get",.str "box"),(.inr "put",.str "box"),(.inr "take",.str "lock"),(.inr "free",.str "lock"),(.inr "send",.str "lane"),(.inr "fetch",.str "lane")]
theorem vt:dy [] bX=bX/\dy [] [((.inr "say" :Key),PV.str "door"),(.inr "hear",.str "door")]=[(.inr "say",.str "door"),(.inr "hear",.str "door")]/\dy bX [((.inr "say" :Key),PV.str "door"),(.inr "hear",.str "door")]=dw:=by
 refine⟨?_,?_,?_⟩<;>simp[bX,dw,dy,iL,aT]
section
variable{pg:Tb}(T:cx pg)
include T
theorem Ke(j:Nat){ns:List Int}(hn:ns.length<=63){np nd:Nat}{ps L:List Str}(p0:0 < ps.length)(p9:ps.length<=1000)(hq: ∀ x∈ps,aL x)(hL: ∀ x∈ps,x∈L){s1 s2 s3 s4 s5:List Str}{g:PH}(hN:d8 g nd s1 s2 s3 s4 s5)(hp:g[np]?=TK (.lst (ps.map PV.str)))
  (k many:Int) (o:Option Int) (k0:0<=k) (k9:k+84<=1000000) (m0:0<=many) (m9:many<=1000) :
  ∃ (r:Rw) (k':Int) (o':Option Int),(kD L many.toNat r∧pb s1 s2 s3 s4 r)∧k<=k'∧k'<=k+84∧run pg (j+9) "_law_row" [.ref 1,.ref (nd+1+1),.ref (np+1+1),.int many] (cv ns::bK k o::g)= .ok (bY r) (cv ns::bK k' o'::g):=by
 have kk:=zZ (run pg (j+8)) (hN.up (cv ns) (bK k o)) (TK (.ref 1)) (TK (.ref (np+1+1))) (TK (.int many)) TL TL TL TL;obtain ⟨m1,m2,m3⟩:=vt;have pre: ∃ (g':PH) (c':Nat) (ks:List Str) (u5 u6:PV),(g++g')[c']?=TK (.lst (ks.map PV.str))∧0 < ks.length∧ks.length<=100∧(∀ x∈ks,jy s1 s2 s3 s4 x)∧ ∀ rest, 
  ah (ax (ay (ab (eS "let") (ab (eS "let") (a3 (eS "leap") (eS "clock") (eS "lot"))))) (gN 4))
  (ah (d6 (ef (ay (ab (bA (ab (eS "box") (ab (ay (a2 (eS "get") (eS "put"))) af))) (ab (bA (ab (eS "lock") (ab (ay (a2 (eS "take") (eS "free"))) af))) (ab (bA (ab (eS "lane") (ab (ay (a2 (eS "send") (eS "fetch"))) af))) af))))) (gT 2 (ao (gN 5) (ao (gN 6) bE))) (cX (aX (aq pD (aq bu (aa 1) (aa 5)) (ay af))) (ax (aq aA (aq aA (aa 4) (aa 6)) (aa 6)) (gN 4)) c8))
  (ah (cX (aX (aq pD (aq bu (aa 1) (eS "door")) (ay af))) (ax (aq aA (aa 4) (ay (a3 (eS "say") (eS "hear") (eS "say")))) (gN 4)) c8)
  rest)) (run pg (j+8)) [TK (.ref 1),TK (.ref (nd+1+1)),TK (.ref (np+1+1)),TK (.int many),TL,TL,TL,TL,TL,TL,TL] (cv ns::bK k o::g) =
  rest (run pg (j+8)) [TK (.ref 1),TK (.ref (nd+1+1)),TK (.ref (np+1+1)),TK (.int many),TK (.ref (c'+1+1)),TK u5,TK u6,TL,TL,TL,TL] (cv ns::bK k o::(g++g')):=by
  obtain⟨g',c,ks,u5,u6,h1,h2,h3,h4,h5⟩:=kk
  obtain⟨c',rfl,h1'⟩:=KL (J:=g++g') h1
  exact⟨g',c',ks,u5,u6,h1',h2,h3,h4,h5⟩
 obtain⟨g',c',ks,u5,u6,hc,kp,kl,hk,ev⟩:=pre;obtain⟨v,v0,v1,ev1⟩:=bJ T (j+6) (g++g') hn o (k:=k) ks.length k0 (by omega) (by omega) (by omega);obtain⟨x,xm,ex⟩:=ju v0 v1;obtain⟨w,w0,w1,ew1⟩:=bJ T (j+6) (g++g') hn o (k:=k+1) ps.length (by omega) (by omega) (by omega) (by omega);obtain⟨y,ym,ey⟩:=ju w0 w1;have hp':(g++g')[np]?=TK (.lst (ps.map PV.str)):=(aR (bB hp)).trans hp;have dk1:Ql ((g++g').length+1+1) bX (cv ns::bK (k+1+1) o::(g++g'++[.dct []]))= .ok (.ref ((g++g').length+1+1)) (cv ns::bK (k+1+1) o::(g++g'++[.dct bX])):=by
  have:=xB (h:=cv ns::bK (k+1+1) o::(g++g')) (kvs:=bX) (by decide);rw[m1] at this;exact this
 have dk2:Ql ((g++g'++[PO.dct bX]).length+1+1) [((.inr "say" :Key),PV.str "door"),(.inr "hear",.str "door")] (cv ns::bK (k+1+1) o::(g++g'++[PO.dct bX]++[.dct []]))= .ok (.ref ((g++g'++[PO.dct bX]).length+1+1)) (cv ns::bK (k+1+1) o::(g++g'++[PO.dct bX]++[.dct [(.inr "say",.str "door"),(.inr "hear",.str "door")]])):=by
  have:=xB (h:=cv ns::bK (k+1+1) o::(g++g'++[PO.dct bX])) (kvs:=[((.inr "say" :Key),PV.str "door"),(.inr "hear",.str "door")]) (by decide);rw[m2] at this;exact this
 generalize hJ:g++g'=J at *;obtain⟨r,k',o',g2,t1,t2,t3,t4⟩:=CZ T j hn p0 p9 hq hL (J:=J++([.dct dw,.dct [(.inr "say",.str "door"),(.inr "hear",.str "door")]]:PH)) (sd:=J.length) (by rw[<- hJ];exact hN.app.app) (by rw[aR (bB hp')];exact hp') aM (k+1+1) many o (by omega) (by omega) m0 m9 (hk x xm) ym (TK (.ref (c'+1+1))) (TK u5) (TK u6);refine⟨r,k',o',t1,by omega,by omega,?_⟩;rw[run_eq T.vi rfl];unfold gC oU;refine(congrArg (fin _) (ev _)).trans ?_;have md: ∀ rr c e,PJ fD jk rr c e (.ref (J.length+1+1)) (cv ns::bK (k+1+1) o::(J++[.dct bX]))=(rr c e (cv ns::bK (k+1+1) o::(J++[.dct bX]))).bind (fD (.ref (J.length+1+1))):=λrr c e=>nP (Oi (kvs:=bX) aM);have up:fD (.ref (J.length+1+1)) [.ref (J.length+(0+1)+1+1)] (cv ns::bK (k+1+1) o::(J++[.dct bX,.dct [(.inr "say",.str "door"),(.inr "hear",.str "door")]]))= .ok .non (cv ns::bK (k+1+1) o::(J++[.dct dw,.dct [(.inr "say",.str "door"),(.inr "hear",.str "door")]])):=by
  have:=RI (h:=cv ns::bK (k+1+1) o::(J++[.dct bX,.dct [(.inr "say",.str "door"),(.inr "hear",.str "door")]])) (n:=J.length+1+1) (m:=J.length+(0+1)+1+1) (kvs:=bX) (more:=[(.inr "say",.str "door"),(.inr "hear",.str "door")]) aM aZ (by omega) (by decide);rw[m3] at this;rw[this];simp only[aag,kM,WB]
 rw[TX] at dk2;simp only[TZ,Vf,UU,Uc,Vc] at dk2;unfold bX at dk1 md up dk2;simp? [hc,ev1,ex,hp',ew1,ey,TV,xA,BD,xb,BY,BZ,zD,dk1,dk2,md,up,↓t4,eG (nZ r)];rw[<- hJ,TZ];exact eG (nZ r)
end
def qQ:List Str:=["a", "ab", "abc", "lets", "leaper", "getit", "puts", "taken", "freed", "sender", "fetched", "says", "clocks", "lots", "hearth", "added", "subway", "mulled", "lesser", "samey", "nothing", "boxes", "locker", "lanes", "doors", "hands", "b", "zzzzzzzz", "of", "num"]
def nA:List PV:=[.str "a",.str "ab",.str "abc",.str "lets",.str "leaper",.str "getit",.str "puts",.str "taken",.str "freed",.str "sender",.str "fetched",.str "says"]
noncomputable def nB:List PV:=[.str "clocks",.str "lots",.str "hearth",.str "added",.str "subway",.str "mulled",.str "lesser",.str "samey",.str "nothing"]
def nC:List PV:=[.str "boxes",.str "locker",.str "lanes",.str "doors",.str "hands",.str "b",.str "zzzzzzzz",.str "of",.str "num"]
def nD:List PV:=[.str "a",.str "ab",.str "abc",.str "lets",.str "leaper",.str "getit",.str "puts",.str "taken",.str "freed",.str "sender",.str "fetched",.str "says",.str "clocks",.str "lots",.str "hearth",.str "added",.str "subway",.str "mulled",.str "lesser",.str "samey",.str "nothing"]
def nE:List PV:=[.str "a",.str "ab",.str "abc",.str "lets",.str "leaper",.str "getit",.str "puts",.str "taken",.str "freed",.str "sender",.str "fetched",.str "says",.str "clocks",.str "lots",.str "hearth",.str "added",.str "subway",.str "mulled",.str "lesser",.str "samey",.str "nothing",.str "boxes",.str "locker",.str "lanes",.str "doors",.str "hands",.str "b",.str "zzzzzzzz",.str "of",.str "num"]
theorem zK: ∀ x∈qQ,aL x:=by unfold aL;decide +kernel
theorem Lq:qQ.Nodup:=by decide +kernel
theorem vb{x y:PO}{J:PH}{a b:Nat}{xs ys:List PV}(e1:J[a]?=TK (.lst xs))(e2:J[b]?=TK (.lst ys))(hl:xs.length+ys.length<=10000):aA (.ref (a+1+1)) (.ref (b+1+1)) (x::y::J)= .ok (.ref (J.length+1+1)) (x::y::(J++[.lst (xs++ys)])) :=
 gE (h:=x::y::J) (n:=a+1+1) (m:=b+1+1) e1 e2 (by omega)
section
variable{pg:Tb}(T:cx pg)
include T
theorem BH(j:Nat){ns:List Int}(hn:ns.length<=63)(k:Int)(o:Option Int)(g:PH)(k0:0<=k)(k9:k < 1000000) :
  ∃(g':PH)(n:Nat)(nm:List Str),(g++g')[n]?=TK (.lst (nm.map PV.str))/\nm.length=30/\(∀ x∈nm,aL x)/\nm.Nodup/\run pg (j+3) "_law_names" [.ref 1] (cv ns::bK k o::g)= .ok (.ref (n+1+1)) (cv ns::bK (k+1) o::(g++g')):=by
 have ad1: ∀ x y,aA (.ref (g.length+1+1)) (.ref (g.length+(0+1)+1+1)) (x::y::(g++[.lst nA,.lst nB]))= .ok (.ref (g.length+(0+1+1)+1+1)) (x::y::(g++[.lst nA,.lst nB,.lst nD])):=λx y=>by
  exact(vb (x:=x) (y:=y) (J:=g++[.lst nA,.lst nB]) (a:=g.length) (b:=g.length+(0+1)) aM aZ (by decide)).trans (by simp only[TZ,TX,Vf,UU,Uc,Vc];rfl)
 have ad2: ∀ x y,aA (.ref (g.length+(0+1+1)+1+1)) (.ref (g.length+(0+1+1+1)+1+1)) (x::y::(g++[.lst nA,.lst nB,.lst nD,.lst nC]))= .ok (.ref (g.length+(0+1+1+1+1)+1+1)) (x::y::(g++[.lst nA,.lst nB,.lst nD,.lst nC,.lst nE])):=λx y=>by
  exact(vb (x:=x) (y:=y) (J:=g++[.lst nA,.lst nB,.lst nD,.lst nC]) (a:=g.length+(0+1+1)) (b:=g.length+(0+1+1+1)) aZ aZ (by decide)).trans (by simp only[TZ,TX,Vf,UU,Uc,Vc];rfl)
 obtain⟨v,v0,v1,ev⟩:=bJ T (j) (g++[.lst nA,.lst nB,.lst nD,.lst nC,.lst nE]) hn o (k:=k) 30 k0 k9 (by decide) (by decide);have hA:[.str "a",.str "ab",.str "abc",.str "lets",.str "leaper",.str "getit",.str "puts",.str "taken",.str "freed",.str "sender",.str "fetched",.str "says"]=nA:=rfl;have hB:[.str "clocks",.str "lots",.str "hearth",.str "added",.str "subway",.str "mulled",.str "lesser",.str "samey",.str "nothing"]=nB:=rfl;have hC:[.str "boxes",.str "locker",.str "lanes",.str "doors",.str "hands",.str "b",.str "zzzzzzzz",.str "of",.str "num"]=nC:=rfl;have lA:nA.length=12:=rfl;have lB:nB.length=9:=rfl;have lC:nC.length=9:=rfl;have lD:nD.length=21:=rfl;have c30:((nE.length:Nat):Int)=30:=rfl;have c1:dX nE (TK v) TL=(qQ.drop v.toNat).map PV.str:=by rw[P3.eV v0,abc];rfl
 have c2:dX nE TL (TK v)=(qQ.take v.toNat).map PV.str:=by rw[P3.we v0,abd];rfl
 have ad3: ∀ x y,aA (.ref (g.length+(0+1+1+1+1+1)+1+1)) (.ref (g.length+(0+1+1+1+1+1+1)+1+1)) (x::y::(g++[.lst nA,.lst nB,.lst nD,.lst nC,.lst nE,.lst ((qQ.drop v.toNat).map PV.str),.lst ((qQ.take v.toNat).map PV.str)]))= .ok (.ref (g.length+(0+1+1+1+1+1+1+1)+1+1)) (x::y::(g++[.lst nA,.lst nB,.lst nD,.lst nC,.lst nE,.lst ((qQ.drop v.toNat).map PV.str),.lst ((qQ.take v.toNat).map PV.str),.lst ((qQ.drop v.toNat++qQ.take v.toNat).map PV.str)])):=λx y=>by
  have:=vb (x:=x) (y:=y) (J:=g++[.lst nA,.lst nB,.lst nD,.lst nC,.lst nE,.lst ((qQ.drop v.toNat).map PV.str),.lst ((qQ.take v.toNat).map PV.str)]) (a:=g.length+(0+1+1+1+1+1)) (b:=g.length+(0+1+1+1+1+1+1)) aZ aZ (by rw[TV,TV,VO,UY];have:qQ.length=30:=rfl;omega);rw[<- US] at this;rw[this];simp only[TZ,TX,Vf,UU,Uc,Vc]
 refine⟨[.lst nA,.lst nB,.lst nD,.lst nC,.lst nE,.lst ((qQ.drop v.toNat).map PV.str),.lst ((qQ.take v.toNat).map PV.str),.lst ((qQ.drop v.toNat++qQ.take v.toNat).map PV.str)],g.length+(0+1+1+1+1+1+1+1),qQ.drop v.toNat++qQ.take v.toNat,aZ,?_,λx m=>?_,?_,?_⟩
 . rw[TX,VO,UY];have:qQ.length=30:=rfl;omega
 . rcases Uz.mp m with m | m
   . exact zK x (ZJ m)
   . exact zK x (Wj m)
 . exact(List.perm_append_comm.trans (by rw[Zo])).nodup_iff.mpr Lq
 . rw[run_eq T.qV rfl];simp? [eE,jX,hA,hB,hC,ad1,ad2,c30,ev,c1,c2,ad3];exact dC (v:= .ref _) rfl
end
def QK(h:PH)(a b:Option PO):RV PV:=match a,b with
 | some (.lst xs),TK (.lst ys)=>CC (xs++ys) h
 | _,_=> .no
theorem NZ{n m:Nat}{h:PH}:aA (.ref n) (.ref m) h=QK h (h[n]?) (h[m]?):=by
 unfold aA QK
 first | rfl | (simp only;done) | (cases h[n]?<;>cases h[m]?<;>rfl)
theorem HN{h:PH}{xs ys:List PV}(hl:xs.length+ys.length<=10000):QK h (TK (.lst xs)) (TK (.lst ys))= .ok (.ref h.length) (h++[.lst (xs++ys)]):=by
 unfold QK CC;exact iF (by rw[TX];omega)
theorem mX{nm:List Str}{v:Int}(h0:0<=v):dX (nm.map PV.str) TL (TK v)=(nm.take v.toNat).map PV.str:=by rw[P3.we h0,abd]
theorem yT{nm:List Str}{v:Int}(h0:0<=v):dX (nm.map PV.str) (TK v) TL=(nm.drop v.toNat).map PV.str:=by rw[P3.eV h0,abc]
theorem yW{a b c d e:PV}:iL [] (.inr "box") a=[(.inr "box",a)]/\iL [(.inr "box",a)] (.inr "lock") b=[(.inr "box",a),(.inr "lock",b)]/\iL [(.inr "box",a),(.inr "lock",b)] (.inr "lane") c=[(.inr "box",a),(.inr "lock",b),(.inr "lane",c)] /\
  iL [(.inr "box",a),(.inr "lock",b),(.inr "lane",c)] (.inr "door") d=[(.inr "box",a),(.inr "lock",b),(.inr "lane",c),(.inr "door",d)]/\iL [(.inr "box",a),(.inr "lock",b),(.inr "lane",c),(.inr "door",d)] (.inr "hand") e=[(.inr "box",a),(.inr "lock",b),(.inr "lane",c),(.inr "door",d),(.inr "hand",e)]:=by
 refine⟨?_,?_,?_,?_,?_⟩<;>simp[iL,aT]
section
variable {pg:Tb} (T:cx pg)
include T
theorem Ci(j : Nat){ns : List Int}(hn : ns.length <= 63)(k : Int)(o : Option Int)(g : PH){n : Nat}{nm : List Str}(hg : g[n]? = TK (.lst (nm.map PV.str)))(k0 : 0 <= k)(k9 : k + 5 < 1000000)(nl : nm.length = 30) :
    ∃ m1 m2 m3 m4 m5 : Int, (0 <= m1 /\ m1 < 5) /\ (0 <= m2 /\ m2 < 5) /\ (0 <= m3 /\ m3 < 5) /\ (0 <= m4 /\ m4 < 5) /\ (0 <= m5 /\ m5 < 5) /\ ∀ rest : MS,
    ah (ax nJ (gN 2))
    (ah (d6 (ef (ay (ab (eS "box") (ab (eS "lock") (a3 (eS "lane") (eS "door") (eS "hand")))))) (gN 3) (ah (ax (ag "_law_pick" (a2 (aa 0) (eI 5))) (gN 4))
    (ah (cX (mQ (aa 3) (eS "hand")) (ax (aq aA (eI 1) (aq g9 (aa 4) (eI 4))) (gN 4)) c8)
    (ah (rO pO (aa 2) (aa 3) (oZ (aa 1) cG (cH (aa 4))))
    (ax (oZ (aa 1) (cH (aa 4)) cG) (gN 1))))))
    rest) (run pg (j + 2)) [TK (.ref 1), TK (.ref (n + 1 + 1)), TL, TL, TL, TL, TL, TL, TL] (cv ns :: bK k o :: g) =
    rest (run pg (j + 2)) [TK (.ref 1), TK (.ref (g.length + 11 + 1 + 1)), TK (.ref (g.length + 1 + 1)), TK (.str "hand"), TK (.int (1 + m5 % 4)), TL, TL, TL, TL] (cv ns :: bK (k + 5) o :: (g ++
      [.dct [(.inr "box", .ref (g.length + 2 + 1 + 1)), (.inr "lock", .ref (g.length + 4 + 1 + 1)), (.inr "lane", .ref (g.length + 6 + 1 + 1)), (.inr "door", .ref (g.length + 8 + 1 + 1)), (.inr "hand", .ref (g.length + 10 + 1 + 1))],
       .lst [.str "box", .str "lock", .str "lane", .str "door", .str "hand"],
       .lst ((nm.take m1.toNat).map PV.str), .lst ((nm.drop m1.toNat).map PV.str),
       .lst (((nm.drop m1.toNat).take m2.toNat).map PV.str), .lst (((nm.drop m1.toNat).drop m2.toNat).map PV.str),
       .lst ((((nm.drop m1.toNat).drop m2.toNat).take m3.toNat).map PV.str), .lst ((((nm.drop m1.toNat).drop m2.toNat).drop m3.toNat).map PV.str),
       .lst (((((nm.drop m1.toNat).drop m2.toNat).drop m3.toNat).take m4.toNat).map PV.str), .lst (((((nm.drop m1.toNat).drop m2.toNat).drop m3.toNat).drop m4.toNat).map PV.str),
       .lst ((((((nm.drop m1.toNat).drop m2.toNat).drop m3.toNat).drop m4.toNat).take (1 + m5 % 4).toNat).map PV.str), .lst ((((((nm.drop m1.toNat).drop m2.toNat).drop m3.toNat).drop m4.toNat).drop (1 + m5 % 4).toNat).map PV.str)])) := by
  have lt := bB hg;have old : ∀ G : PH, (g ++ G)[n]? = TK (.lst (nm.map PV.str)) := λG => (aR lt).trans hg;obtain ⟨m1, a1, b1, p1⟩ := bJ T j (g ++ [.dct [], .lst [.str "box", .str "lock", .str "lane", .str "door", .str "hand"]]) hn o (k := k) 5 k0 (by omega) (by decide) (by decide)
  let G1 : PH := [.dct [(.inr "box", .ref (g.length + (0 + 1 + 1) + 1 + 1))], .lst [.str "box", .str "lock", .str "lane", .str "door", .str "hand"], .lst ((nm.take m1.toNat).map PV.str), .lst ((nm.drop m1.toNat).map PV.str)]
  obtain ⟨m2, a2, b2, p2⟩ := bJ T j (g ++ G1) hn o (k := k + 1) 5 (by omega) (by omega) (by decide) (by decide)
  let G2 : PH := [.dct [(.inr "box", .ref (g.length + (0 + 1 + 1) + 1 + 1)), (.inr "lock", .ref (g.length + (0 + 1 + 1 + 1 + 1) + 1 + 1))], .lst [.str "box", .str "lock", .str "lane", .str "door", .str "hand"], .lst ((nm.take m1.toNat).map PV.str), .lst ((nm.drop m1.toNat).map PV.str), .lst (((nm.drop m1.toNat).take m2.toNat).map PV.str), .lst (((nm.drop m1.toNat).drop m2.toNat).map PV.str)]
  obtain ⟨m3, a3, b3, p3⟩ := bJ T j (g ++ G2) hn o (k := k + 1 + 1) 5 (by omega) (by omega) (by decide) (by decide)
  let G3 : PH := [.dct [(.inr "box", .ref (g.length + (0 + 1 + 1) + 1 + 1)), (.inr "lock", .ref (g.length + (0 + 1 + 1 + 1 + 1) + 1 + 1)), (.inr "lane", .ref (g.length + (0 + 1 + 1 + 1 + 1 + 1 + 1) + 1 + 1))], .lst [.str "box", .str "lock", .str "lane", .str "door", .str "hand"], .lst ((nm.take m1.toNat).map PV.str), .lst ((nm.drop m1.toNat).map PV.str), .lst (((nm.drop m1.toNat).take m2.toNat).map PV.str), .lst (((nm.drop m1.toNat).drop m2.toNat).map PV.str),
       .lst ((((nm.drop m1.toNat).drop m2.toNat).take m3.toNat).map PV.str), .lst ((((nm.drop m1.toNat).drop m2.toNat).drop m3.toNat).map PV.str)]
  obtain ⟨m4, a4, b4, p4⟩ := bJ T j (g ++ G3) hn o (k := k + 1 + 1 + 1) 5 (by omega) (by omega) (by decide) (by decide)
  let G4 : PH := [.dct [(.inr "box", .ref (g.length + (0 + 1 + 1) + 1 + 1)), (.inr "lock", .ref (g.length + (0 + 1 + 1 + 1 + 1) + 1 + 1)), (.inr "lane", .ref (g.length + (0 + 1 + 1 + 1 + 1 + 1 + 1) + 1 + 1)), (.inr "door", .ref (g.length + (0 + 1 + 1 + 1 + 1 + 1 + 1 + 1 + 1) + 1 + 1))], .lst [.str "box", .str "lock", .str "lane", .str "door", .str "hand"], .lst ((nm.take m1.toNat).map PV.str), .lst ((nm.drop m1.toNat).map PV.str), .lst (((nm.drop m1.toNat).take m2.toNat).map PV.str), .lst (((nm.drop m1.toNat).drop m2.toNat).map PV.str),
       .lst ((((nm.drop m1.toNat).drop m2.toNat).take m3.toNat).map PV.str), .lst ((((nm.drop m1.toNat).drop m2.toNat).drop m3.toNat).map PV.str), .lst (((((nm.drop m1.toNat).drop m2.toNat).drop m3.toNat).take m4.toNat).map PV.str), .lst (((((nm.drop m1.toNat).drop m2.toNat).drop m3.toNat).drop m4.toNat).map PV.str)]
  obtain ⟨m5, a5, b5, p5⟩ := bJ T j (g ++ G4) hn o (k := k + 1 + 1 + 1 + 1) 5 (by omega) (by omega) (by decide) (by decide);refine ⟨m1, m2, m3, m4, m5, ⟨a1, b1⟩, ⟨a2, b2⟩, ⟨a3, b3⟩, ⟨a4, b4⟩, ⟨a5, b5⟩, λrest => ?_⟩;have mm : 0 <= m5 % 4 := W7 _ (by decide);dsimp only [G1, G2, G3, G4] at p2 p3 p4 p5;have pu := λa b c d e => yW (a := a) (b := b) (c := c) (d := d) (e := e);simp? (disch := first | omega | exact iX aZ | (simp only [Uc, Vc] <;> omega)) only [old, iS, nc, aU, mX, yT, Cw, p1, p2, p3, p4, p5, (pu .non .non .non .non .non).1, λa => (pu a .non .non .non .non).1, λa b => (pu a b .non .non .non).2.1, λa b c => (pu a b c .non .non).2.2.1, λa b c d => (pu a b c d .non).2.2.2.1, λa b c d e => (pu a b c d e).2.2.2.2];have kk : k + 1 + 1 + 1 + 1 + 1 = k + 5 := by omega
  rw [kk]
theorem yM(j:Nat){ns:List Int}(hn:ns.length<=63)(k:Int)(o:Option Int)(g:PH){n:Nat}{nm:List Str}(hg:g[n]?=TK (.lst (nm.map PV.str)))(k0:0<=k)(k9:k+5 < 1000000)(nl:nm.length=30)(nk: ∀ x∈nm,aL x) :
  ∃ (g':PH) (nn nd:Nat) (s1 s2 s3 s4 s5 n5:List Str) (u3 u4:Option PV),d8 (g++g') nd s1 s2 s3 s4 s5∧(g++g')[nn]?=TK (.lst (n5.map PV.str))∧n5.length<=30∧1<=s5.length∧s5.length<=4∧s1++(s2++(s3++(s4++(s5++n5))))=nm∧ ∀ rest:MS,
  ah (ax nJ (gN 2))
  (ah (d6 (ef (ay (ab (eS "box") (ab (eS "lock") (a3 (eS "lane") (eS "door") (eS "hand")))))) (gN 3) (ah (ax (ag "_law_pick" (a2 (aa 0) (eI 5))) (gN 4))
  (ah (cX (mQ (aa 3) (eS "hand")) (ax (aq aA (eI 1) (aq g9 (aa 4) (eI 4))) (gN 4)) c8)
  (ah (rO pO (aa 2) (aa 3) (oZ (aa 1) cG (cH (aa 4))))
  (ax (oZ (aa 1) (cH (aa 4)) cG) (gN 1))))))
  rest) (run pg (j+2)) [TK (.ref 1),TK (.ref (n+1+1)),TL,TL,TL,TL,TL,TL,TL] (cv ns::bK k o::g) =
  rest (run pg (j+2)) [TK (.ref 1),TK (.ref (nn+1+1)),TK (.ref (nd+1+1)),u3,u4,TL,TL,TL,TL] (cv ns::bK (k+5) o::(g++g')):=by
 obtain⟨m1,m2,m3,m4,m5,⟨a1,b1⟩,⟨a2,b2⟩,⟨a3,b3⟩,⟨a4,b4⟩,⟨a5,b5⟩,h⟩:=Ci T j hn k o g hg k0 k9 nl;have q5:0<=m5 % 4/\m5 % 4 < 4:=⟨W7 _ (by decide),Xa _ (by decide)⟩
 have tk: ∀{l:List Str}{m:Nat}{x:Str},x∈l.take m->x∈l:=λh=>Wj h;have dr: ∀{l:List Str}{m:Nat}{x:Str},x∈l.drop m->x∈l:=λh=>ZJ h;refine⟨_,_,_,nm.take m1.toNat,(nm.drop m1.toNat).take m2.toNat,((nm.drop m1.toNat).drop m2.toNat).take m3.toNat,(((nm.drop m1.toNat).drop m2.toNat).drop m3.toNat).take m4.toNat,((((nm.drop m1.toNat).drop m2.toNat).drop m3.toNat).drop m4.toNat).take (1+m5 % 4).toNat,((((nm.drop m1.toNat).drop m2.toNat).drop m3.toNat).drop m4.toNat).drop (1+m5 % 4).toNat,_,_,⟨⟨_,_,_,_,_,aM,aZ,aZ,aZ,aZ,aZ⟩,⟨λx m=>nk x (tk m),λx m=>nk x (dr (tk m)),λx m=>nk x (dr (dr (tk m))),λx m=>nk x (dr (dr (dr (tk m))))⟩,?_⟩,aZ,?_,?_,?_,by simp only[Zo],h⟩
 . simp only[UY,VO];omega
 . simp only[UY,VO];omega
 . simp only[UY,VO];omega
 . simp only[UY,VO];omega
end
mutual
def jw:PV->Bool
 | .tup xs=>decide (xs.length<=100000)&&kQ xs
 | .non=>true
 | .bl _=>true
 | .int _=>true
 | .str _=>true
 | _=>false
def kQ:List PV->Bool
 | []=>true
 | x::r=>jw x&&kQ r
end
mutual
def HE:PV->Nat
 | .tup xs=>M8 xs+1
 | _=>0
def M8:List PV->Nat
 | []=>0
 | x::r=>max (HE x) (M8 r)
end
theorem qg: ∀{xs:List PV}{x:PV},kQ xs=true->x∈xs->jw x=true
 | y::r,x,h,m=>by
  rw[kQ,Uw] at h;rcases Uh.mp m with rfl | m
  . exact h.1
  . exact qg h.2 m
theorem Ad: ∀{xs:List PV}{x:PV},x∈xs->HE x<=M8 xs
 | y::r,x,m=>by
  rw[M8];rcases Uh.mp m with rfl | m
  . omega
  . have:=Ad m;omega
theorem all_true(n:Nat):(Ue n true).all id=true:=by simp
theorem iW{xs:List PV}{h:PH}:pE.iw ⟨TL,xs⟩ h=true:=rfl
theorem wJ(n:Nat):[]++(VY n).filterMap (λ_=>TK (PV.bl true))=(Ue n true).map PV.bl:=by simp[List.filterMap_some,List.map_const']
section
variable{pg:Tb}(T:cx pg)
include T
theorem same_refl: ∀(k:Nat)(h:PH)(v:PV),jw v=true->HE v<=k->run pg (k+1) "_law_same" [v,v] h= .ok (.bl true) h:=by
 intro k
 induction k with
 | zero =>
  intro h v hv hd
  rw[run_eq T.ip rfl]
  cases v with
  | tup xs=>rw[HE] at hd;omega
  | non=>simp? [aY,bw,Cu,Cf]
  | bl p=>simp? [aY,bw,CD,Cy]
  | int i=>simp? [aY,bw,zX,BI,AD]
  | str i=>simp? [aY,bw,Cv,CM,zE,oh]
  | _=>nomatch hv
 | succ k ih =>
  intro h v hv hd
  rw[run_eq T.ip rfl]
  cases v with
  | tup xs =>
   rw[jw,Uw,decide_eq_true_eq] at hv
   rw[HE] at hd
   have e1:jD ⟨TL,aP 0 xs.length⟩ (bL 1 (gN 2) aV (ag "_law_same" (ab (aq bu (aa 0) (aa 2)) (ab (aq bu (aa 1) (aa 2)) af))) (run pg (k+1)) [TK (.tup xs),TK (.tup xs)]) (aP 0 xs.length) [] h= .ok ((Ue xs.length true).map PV.bl) h:=by
    rw[show aP 0 xs.length=(VY xs.length).map (λi:Nat=>PV.int (0+(i:Int))) from rfl];refine(cO (f:=λ_=>TK (PV.bl true)) (g:=λi:Nat=>PV.int (0+(i:Int))) iW (VY xs.length) [] (λq m=>?_) (by rw[Yq];exact UQ hv.1 (by decide))).trans (by rw[wJ]);have hq:q < xs.length:=Zt.mp m;have ix:=Rz (h:=h) (P3.gK (xs:=xs) (i:=0+(q:Int)) (n:=q) (by omega) (UI hq));have im:xs[q]∈xs:=aaI hq;have sm:=ih h xs[q] (qg hv.2 im) (by have:=Ad im;omega);simp? [ix,sm]
   have al:=xx (h:=h++[.lst ((Ue xs.length true).map PV.bl)]) (n:=h.length) aM
   rw[all_true] at al
   simp? [aY,bw,J9,Kt,Jc,VL,e1,al]
   exact dc rfl
  | non=>simp? [aY,bw,Cu,Cf]
  | bl p=>simp? [aY,bw,CD,Cy]
  | int i=>simp? [aY,bw,zX,BI,AD]
  | str i=>simp? [aY,bw,Cv,CM,zE,oh]
  | _=>nomatch hv
end
theorem Eh{v:Int}(h0:0<=v)(h1:v < 3): ∃ x:Str,aL x/\gA [PV.str "a",.str "ab",.str "boxes"] v=TK (.str x):=by
 have:v=0\/v=1\/v=2:=by omega
 rcases this with rfl | rfl | rfl<;>exact⟨_,by unfold aL;decide +kernel,rfl⟩
theorem HZ{v w:Int}(h0:0<=v)(h1:v < 4)(w0:0<=w)(w1:w < 1000): ∃ n:Int,(0<=n/\n<=999)/\gA [PV.int 0,.int 1,.int 999,.int w] v=TK (.int n):=by
 have:v=0\/v=1\/v=2\/v=3:=by omega
 rcases this with rfl | rfl | rfl | rfl<;>exact⟨_,by omega,rfl⟩
theorem F5{v a b c:Int}(h0:0<=v)(h1:v < 4)(a0:0<=a)(a1:a < 4)(b0:0<=b)(b1:b < 6)(c0:0<=c)(c1:c < 6): ∃ n:Int,0<=n/\n<=30/\gA [PV.int a,.int (3+b),.int (3+c),.int 30] v=TK (.int n):=by
 have:v=0\/v=1\/v=2\/v=3:=by omega
 rcases this with rfl | rfl | rfl | rfl
 . exact⟨a,a0,by omega,rfl⟩
 . exact⟨3+b,by omega,by omega,rfl⟩
 . exact⟨3+c,by omega,by omega,rfl⟩
 . exact⟨30,by decide,by decide,rfl⟩
section
variable{pg:Tb}(T:cx pg)
include T
theorem vx(j:Nat){ns:List Int}(hn:ns.length<=63)(k:Int)(o:Option Int)(J:PH){nn nd:Nat}{s1 s2 s3 s4 s5 n5:List Str}(hN:d8 J nd s1 s2 s3 s4 s5)(h5:J[nn]?=TK (.lst (n5.map PV.str)))(k0:0<=k)(k9:k+1 < 1000000)(ok1: ∀ x∈s1,aL x)(ok5: ∀ x∈s5,aL x)(okn: ∀ x∈n5,aL x)(u3 u4 n7 n8:Option PV) :
  ∃(G:PH)(np:Nat)(ps:List Str),(∀ x∈ps,aL x)/\(J++G)[np]?=TK (.lst (ps.map PV.str))/\0 < ps.length/\ps.length<=5/\ ∀ rest:MS,
  ah (ax (aq aA (aq aA (aq aA (oZ (aa 1) cG (cH (eI 2))) (oZ (aq bu (aa 2) (eS "box")) cG (cH (eI 1)))) (oZ (aq bu (aa 2) (eS "hand")) cG (cH (eI 1)))) (ay (ab (aq bu (ay (a3 (eS "a") (eS "ab") (eS "boxes"))) (ag "_law_pick" (a2 (aa 0) (eI 3)))) af))) (gN 5))
  (ah (ax (ay af) (gN 6)) rest) (run pg (j+2)) [TK (.ref 1),TK (.ref (nn+1+1)),TK (.ref (nd+1+1)),u3,u4,TL,TL,n7,n8] (cv ns::bK k o::J) =
  rest (run pg (j+2)) [TK (.ref 1),TK (.ref (nn+1+1)),TK (.ref (nd+1+1)),u3,u4,TK (.ref (np+1+1)),TK (.ref ((J++G).length+1+1)),n7,n8] (cv ns::bK (k+1) o::(J++G++[.lst []])):=by
 obtain⟨⟨b1,b2,b3,b4,b5,e0,e1,e2,e3,e4,e5⟩,_,_⟩:=hN;obtain⟨w1,w2,w3,w4,w5⟩:=i8 (b1:=b1+1+1) (b2:=b2+1+1) (b3:=b3+1+1) (b4:=b4+1+1) (b5:=b5+1+1);have o0: ∀ G:PH,(J++G)[nd]?=_:=λG=>(aR (bB e0)).trans e0;have o1: ∀ G:PH,(J++G)[b1]?=_:=λG=>(aR (bB e1)).trans e1;have o5: ∀ G:PH,(J++G)[b5]?=_:=λG=>(aR (bB e5)).trans e5
 let A:List PV:=(n5.take 2).map PV.str
 let B:List PV:=(s1.take 1).map PV.str
 let C:List PV:=(s5.take 1).map PV.str
 have t2:dX (n5.map PV.str) TL (TK 2)=A:=mX (by decide);have t1:dX (s1.map PV.str) TL (TK 1)=B:=mX (by decide);have t5:dX (s5.map PV.str) TL (TK 1)=C:=mX (by decide);have lA:A.length<=2:=by simp only[A,TV,UY];omega
 have lB:B.length<=1:=by simp only[B,TV,UY];omega
 have lC:C.length<=1:=by simp only[C,TV,UY];omega
 obtain⟨v,v0,v1,ev⟩:=bJ T j (J++[.lst A,.lst B,.lst (A++B),.lst C,.lst (A++(B++C)),.lst [.str "a",.str "ab",.str "boxes"]]) hn o (k:=k) 3 k0 (by omega) (by decide) (by decide);obtain⟨x,okx,ex⟩:=Eh v0 v1;have eq:A++(B++(C++[PV.str x]))=(n5.take 2++(s1.take 1++(s5.take 1++[x]))).map PV.str:=by simp only[A,B,C,US,T9,UE]
 refine⟨[.lst A,.lst B,.lst (A++B),.lst C,.lst (A++(B++C)),.lst [.str "a",.str "ab",.str "boxes"],.lst [.str x],.lst (A++(B++(C++[.str x])))],J.length+(0+1+1+1+1+1+1+1),n5.take 2++(s1.take 1++(s5.take 1++[x])),?_,?_,?_,?_,λrest=>?_⟩
 . intro z mz;rcases Uz.mp mz with m | m
   . exact okn z (Wj m)
   rcases Uz.mp m with m | m
   . exact ok1 z (Wj m)
   rcases Uz.mp m with m | m
   . exact ok5 z (Wj m)
   . rw[UD.mp m];exact okx
 . rw[<- eq];exact aZ
 . simp only[TX,Uc];omega
 . simp only[TX,Uc,Vc,UY];omega
 . clear_value A B C
   simp? (disch:=first | omega | (simp only[TX,Uc,Vc]<;>omega)) only[e0,o0,w1,w5,o1,o5,h5,t2,t1,t5,NZ,HN,ev,ex]
theorem FG(j:Nat){ns:List Int}(hn:ns.length<=63){np nd:Nat}{ps L:List Str}(p0:0 < ps.length)(p9:ps.length<=1000)(hq: ∀ x∈ps,aL x)(hL: ∀ x∈ps,x∈L){s1 s2 s3 s4 s5:List Str}{g:PH}(hN:d8 g nd s1 s2 s3 s4 s5)(hp:g[np]?=TK (.lst (ps.map PV.str)))(many:Int)(m0:0<=many)(m9:many<=30)(xs0:List PV)(e1 e3 e6 e7 e8:Option PV) :
  ∀(xs ys:List PV)(k:Int)(o:Option Int),0<=k->k+84*xs.length<=1000000->ys.length+xs.length<=1000-> ∃(rs:List Rw)(k':Int)(o':Option Int),rs.length=xs.length/\(∀ r∈rs,kD L many.toNat r/\pb s1 s2 s3 s4 r)/\k<=k'/\k'<=k+84*xs.length /\
   jD ⟨TL,xs0⟩ (bL 1 (gN 9) aV (ag "_law_row" (ab (aa 0) (a3 (aa 2) (aa 5) (aa 4)))) (run pg (j+9)) [TK (.ref 1),e1,TK (.ref (nd+1+1)),e3,TK (.int many),TK (.ref (np+1+1)),e6,e7,e8]) xs ys (cv ns::bK k o::g)= .ok (ys++rs.map bY) (cv ns::bK k' o'::g):=by
 intro xs
 induction xs with
 | nil=>intro ys k o k0 k9 _;exact⟨[],k,o,rfl,λr m=>(nomatch m),by omega,by simp,by rw[P3.jD,if_pos iW];simp⟩
 | cons x xs ih =>
  intro ys k o k0 k9 hl
  rw[Uc] at k9 hl
  obtain⟨r,k1,o1,q1,q2,q3,q4⟩:=Ke T j hn p0 p9 hq hL hN hp k many o k0 (by omega) m0 (by omega)
  obtain⟨rs,k2,o2,r1,r2,r3,r4,r5⟩:=ih (ys++[bY r]) k1 o1 (by omega) (by omega) (by simp;omega)
  refine⟨r::rs,k2,o2,by simp[r1],λz m=>?_,by omega,by rw[Uc];omega,?_⟩
  . rcases Uh.mp m with rfl | m
    . exact q1
    . exact r2 z m
  . have st:bL 1 (gN 9) aV (ag "_law_row" (ab (aa 0) (a3 (aa 2) (aa 5) (aa 4)))) (run pg (j+9)) [TK (.ref 1),e1,TK (.ref (nd+1+1)),e3,TK (.int many),TK (.ref (np+1+1)),e6,e7,e8] x (cv ns::bK k o::g)= .ok (TK (bY r)) (cv ns::bK k1 o1::g):=by
     simp? [q4]
    have hz:ys.length < Ub:=Ul (show ys.length < 1001 by omega) (by decide);rw[P3.jD,if_pos ⟨iW,hz⟩,st,iQ];simpa using r5
end
def bU(h:Str × List Rw):PV:= .tup [.str h.1,aH h.2]
theorem nH: ∀ hs:List (Str × List Rw),PV.aS (hs.map bU)=true
 | []=>rfl
 | h::r=>by simp only[T9,PV.aS,nH r,bU,PV.flat,aH,iY,WK]
theorem yv(n:Nat):(aP 0 n).length=n:=by
 rw[show aP 0 n=(VY n).map (λi:Nat=>PV.int (0+(i:Int))) from rfl,TV,Yq]
section
variable{pg:Tb}(T:cx pg)
include T
theorem B9(j:Nat){ns:List Int}(hn:ns.length<=63){np nd b5:Nat}{ps L:List Str}(p0:0 < ps.length)(p9:ps.length<=1000)(hq: ∀ x∈ps,aL x)(hL: ∀ x∈ps,x∈L){s1 s2 s3 s4 s5:List Str}{B:PH}(hN:d8 B nd s1 s2 s3 s4 s5)(hp:B[np]?=TK (.lst (ps.map PV.str)))(h5:B[b5]?=TK (.lst (s5.map PV.str)))(u1 u3 n8:Option PV) :
  ∀(xs:List Str)(hs:List (Str × List Rw))(k:Int)(o:Option Int)(g2:PH)(u4 u7:Option PV),0<=k->k+2600*xs.length<=1000000->hs.length+xs.length<=100-> ∃(hs':List (Str × List Rw))(k':Int)(o':Option Int)(g3:PH)(u4' u7':Option PV),
   hs'.map (·.1)=xs/\(∀ h∈hs',h.2.length<=30/\ ∀ r∈h.2,kD L h.2.length r/\pb s1 s2 s3 s4 r)/\k<=k'/\k'<=k+2600*xs.length /\
   bh ⟨TK (b5+1+1),s5.map PV.str⟩ (bc (gN 7) (ah (ax (aq bu (ay (ab (ag "_law_pick" (a2 (aa 0) (eI 4))) (ab (aq aA (eI 3) (ag "_law_pick" (a2 (aa 0) (eI 6)))) (ab (aq aA (eI 3) (ag "_law_pick" (a2 (aa 0) (eI 6)))) (a1 (eI 30)))))) (ag "_law_pick" (a2 (aa 0) (eI 4)))) (gN 4))
  (aC (eM au aJ (aa 6) (ab (bA (ab (aa 7) (ab (eB bZ (ab (jh 1 (eO (a1 (aa 4))) (gN 9) aV (ag "_law_row" (ab (aa 0) (a3 (aa 2) (aa 5) (aa 4))))) af)) af))) af)))) (run pg (j+9))) (xs.map PV.str)
    [TK (.ref 1),u1,TK (.ref (nd+1+1)),u3,u4,TK (.ref (np+1+1)),TK (.ref (B.length+1+1)),u7,n8] (cv ns::bK k o::(B++(.lst (hs.map bU)::g2))) =
   .ok (.nx [TK (.ref 1),u1,TK (.ref (nd+1+1)),u3,u4',TK (.ref (np+1+1)),TK (.ref (B.length+1+1)),u7',n8]) (cv ns::bK k' o'::(B++(.lst ((hs++hs').map bU)::g3))):=by
 have fin1: ∀(k:Int)(o:Option Int)(g:PH),pE.iw ⟨TK (b5+1+1),s5.map PV.str⟩ (cv ns::bK k o::(B++g))=true:=λk o g=>iX (show(B++g)[b5]?=_ from(aR (bB h5)).trans h5);intro xs
 induction xs with
 | nil=>intro hs k o g2 u4 u7 k0 k9 _;exact⟨[],k,o,g2,u4,u7,rfl,λh m=>(nomatch m),by omega,by simp,by rw[UE,nc (fin1 _ _ _),Ui]⟩
 | cons x xs ih =>
  intro hs k o g2 u4 u7 k0 k9 hl
  rw[Uc] at k9 hl
  obtain⟨a,a0,a1,ea⟩:=bJ T (j+7) (B++(.lst (hs.map bU)::g2)) hn o (k:=k) 4 k0 (by omega) (by decide) (by decide)
  obtain⟨b,b0,b1,eb⟩:=bJ T (j+7) (B++(.lst (hs.map bU)::g2)) hn o (k:=k+1) 6 (by omega) (by omega) (by decide) (by decide)
  obtain⟨c,c0,c1,ec⟩:=bJ T (j+7) (B++(.lst (hs.map bU)::g2)) hn o (k:=k+1+1) 6 (by omega) (by omega) (by decide) (by decide)
  obtain⟨d,d0,d1,ed⟩:=bJ T (j+7) (B++(.lst (hs.map bU)::(g2++[.lst [.int a,.int (3+b),.int (3+c),.int 30]]))) hn o (k:=k+1+1+1) 4 (by omega) (by omega) (by decide) (by decide)
  obtain⟨m,m0,m9,em⟩:=F5 d0 d1 a0 a1 b0 b1 c0 c1
  have ml:(aP 0 m.toNat).length=m.toNat:=yv _
  obtain⟨rs,k1,o1,r1,r2,r3,r4,r5⟩:=FG T j hn p0 p9 hq hL (g:=B++(.lst (hs.map bU)::(g2++[.lst [.int a,.int (3+b),.int (3+c),.int 30]]))) hN.app ((aR (bB hp)).trans hp) m m0 m9 (aP 0 m.toNat) u1 u3 (TK (.ref (B.length+1+1))) (TK (.str x)) n8 (aP 0 m.toNat) [] (k+1+1+1+1) o (by omega) (by omega) (by rw[ml];simp;omega)
  rw[ml] at r1 r4
  obtain⟨hs',k2,o2,g3,u4',u7',q1,q2,q3,q4,q5⟩:=ih (hs++[(x,rs)]) k1 o1 (g2++[.lst [.int a,.int (3+b),.int (3+c),.int 30],.lst (rs.map bY)]) (TK (.int m)) (TK (.str x)) (by omega) (by omega) (by simp;omega)
  refine⟨(x,rs)::hs',k2,o2,g3,u4',u7',by rw[T9,q1],λh mm=>?_,by omega,by rw[Uc];omega,?_⟩
  . rcases Uh.mp mm with rfl | mm
    . exact⟨by show rs.length<=30;omega,λr mr=>by show kD L rs.length r/\pb s1 s2 s3 s4 r;rw[r1];exact r2 r mr⟩
    . exact q2 h mm
  . rw[T9,iS (fin1 _ _ _)];have hz:(hs.map bU).length < 16777216:=by rw[TV];omega
    have e2:(hs++[(x,rs)]).map bU=hs.map bU++[.tup [.str x,.tup (rs.map bY)]]:=by rw[US];rfl
    rw[e2] at q5;rw[show hs++(x,rs)::hs'=hs++[(x,rs)]++hs' by simp];rw[UU] at r5;simp? [ea,eb,ec,ed,em,r5,uh hz,aU,q5]
theorem AS(j:Nat){ns:List Int}(hn:ns.length<=63){b1:Nat}{s1:List Str}{B:PH}(h1:B[b1]?=TK (.lst (s1.map PV.str)))(o:Option Int)(e1 e2 e3 e4 e5 e6 e7 e8:Option PV) :
  ∀(xs:List Str)(ys:List PV)(k:Int)(g2:PH),0<=k->k+2*xs.length<=1000000->ys.length+xs.length<=1000-> ∃(bs:List PV)(k':Int)(g3:PH),PV.aS bs=true/\(∃ qs:List (Str × PV),bs=qs.map pr/\qs.map (·.1)=xs/\ ∀ q∈qs,Bm 0 999 q.2=true/\ ∃ n,q.2= .int n)/\k<=k'/\k'<=k+2*xs.length /\
   jD ⟨TK (b1+1+1),s1.map PV.str⟩ (bL 1 (gN 9) aV (bA (ab (aa 9) (ab (aq bu (ay (ab (eI 0) (ab (eI 1) (ab (eI 999) (ab (ag "_law_pick" (a2 (aa 0) (eI 1000))) af))))) (ag "_law_pick" (a2 (aa 0) (eI 4)))) af))) (run pg (j+2)) [TK (.ref 1),e1,e2,e3,e4,e5,e6,e7,e8]) (xs.map PV.str) ys (cv ns::bK k o::(B++g2))= .ok (ys++bs) (cv ns::bK k' o::(B++(g2++g3))):=by
 have fin1: ∀(k:Int)(o:Option Int)(g:PH),pE.iw ⟨TK (b1+1+1),s1.map PV.str⟩ (cv ns::bK k o::(B++g))=true:=λk o g=>iX (show(B++g)[b1]?=_ from(aR (bB h1)).trans h1);intro xs
 induction xs with
 | nil=>intro ys k g2 k0 k9 _;exact⟨[],k,[],rfl,⟨[],rfl,rfl,λ_ m=>(nomatch m)⟩,by omega,by simp,by rw[UE,P3.jD,if_pos (fin1 _ _ _)];simp⟩
 | cons x xs ih =>
  intro ys k g2 k0 k9 hl
  rw[Uc] at k9 hl
  obtain⟨a,a0,a1,ea⟩:=bJ T j (B++g2) hn o (k:=k) 1000 k0 (by omega) (by decide) (by decide)
  obtain⟨b,b0,b1,eb⟩:=bJ T j (B++(g2++[.lst [.int 0,.int 1,.int 999,.int a]])) hn o (k:=k+1) 4 (by omega) (by omega) (by decide) (by decide)
  obtain⟨n,n9,en⟩:=HZ (w:=a) b0 b1 a0 a1
  obtain⟨bs,k2,g3,q1,q5,q2,q3,q4⟩:=ih (ys++[.tup [.str x,.int n]]) (k+1+1) (g2++[.lst [.int 0,.int 1,.int 999,.int a]]) (by omega) (by omega) (by simp;omega)
  refine⟨.tup [.str x,.int n]::bs,k2,.lst [.int 0,.int 1,.int 999,.int a]::g3,by rw[PV.aS,q1];rfl,(by obtain⟨qs,y1,y2,y3⟩:=q5;exact⟨(x,.int n)::qs,by rw[T9,y1];rfl,by rw[T9,y2],TN.mpr ⟨⟨decide_eq_true n9,n,rfl⟩,y3⟩⟩),by omega,by rw[Uc];omega,?_⟩
  have st:bL 1 (gN 9) aV (bA (ab (aa 9) (ab (aq bu (ay (ab (eI 0) (ab (eI 1) (ab (eI 999) (ab (ag "_law_pick" (a2 (aa 0) (eI 1000))) af))))) (ag "_law_pick" (a2 (aa 0) (eI 4)))) af))) (run pg (j+2)) [TK (.ref 1),e1,e2,e3,e4,e5,e6,e7,e8] (.str x) (cv ns::bK k o::(B++g2))= .ok (TK (.tup [.str x,.int n])) (cv ns::bK (k+1+1) o::(B++(g2++[.lst [.int 0,.int 1,.int 999,.int a]]))):=by
   simp? [ea,eb,en]
  have hz:ys.length < Ub:=Ul (show ys.length < 1001 by omega) (by decide)
  rw[T9,P3.jD,if_pos ⟨fin1 _ _ _,hz⟩,st,iQ]
  simpa using q4
end
theorem blank_eq:TU " " =⟨#[32]⟩:=by decide +kernel
noncomputable def jn(ws:List Str):Str:=aa8 " " ws
def cV(w:Str):Prop:=32 ∉ w.cps.toList
theorem AF: ∀{ps ws:List Str},ps≠[]->ws≠[]->(∀ p∈ps,cV p)->(∀ w∈ws,cV w)->(VF ⟨#[32]⟩ ps).cps.toList=(VF ⟨#[32]⟩ ws).cps.toList->ps=ws:=by
 have cut: ∀(a b:List Nat)(r t:List Nat),32 ∉ a->32 ∉ b->a++32::r=b++32::t->a=b/\r=t:=λa=>by
  induction a with
  | nil =>
   intro b r t _ hb e
   cases b with
   | nil=>exact⟨rfl,(W0 e).2⟩
   | cons y b=>exact absurd Ug ((W0 e).1 ▸ hb)
  | cons x a ih =>
   intro b r t ha hb e
   cases b with
   | nil=>exact absurd Ug ((W0 e).1.symm ▸ ha)
   | cons y b =>
    obtain⟨e1,e2⟩:=W0 e
    obtain⟨h1,h2⟩:=ih b r t (λz=>ha (T7 _ z)) (λz=>hb (T7 _ z)) e2
    exact⟨by rw[e1,h1],h2⟩
 have two: ∀(p q:Str)(r:List Str),(VF ⟨#[32]⟩ (p::q::r)).cps.toList=p.cps.toList++32::(VF ⟨#[32]⟩ (q::r)).cps.toList:=λp q r=>by
  show(p++⟨#[32]⟩++VF ⟨#[32]⟩ (q::r)).cps.toList=_;simp only[Str.cps_append,Array.toList_append,TZ];rfl
 have ext: ∀{a b:Str},a.cps.toList=b.cps.toList->a=b:=λe=>Str.ext' (Array.toList_inj.mp e);intro ps
 induction ps with
 | nil=>exact λh=>absurd rfl h
 | cons p ps ih =>
  intro ws _ hw fp fw e
  cases ws with
  | nil=>exact absurd rfl hw
  | cons w ws =>
   have f1:=fp p Ug
   have f2:=fw w Ug
   cases ps with
   | nil =>
    cases ws with
    | nil=>rw[ext (a:=p) (b:=w) e]
    | cons v ws =>
     rw[two] at e
     have e:p.cps.toList=_:=e
     exact absurd (show 32∈p.cps.toList by rw[e];simp) f1
   | cons q ps =>
    cases ws with
    | nil =>
     rw[two] at e
     have e:_=w.cps.toList:=e
     exact absurd (show 32∈w.cps.toList by rw[<- e];simp) f2
    | cons v ws =>
     rw[two,two] at e
     obtain⟨e1,e2⟩:=cut _ _ _ _ f1 f2 e
     rw[ext e1,ih (by simp) (by simp) (λz m=>fp z (T7 _ m)) (λz m=>fw z (T7 _ m)) e2]
theorem AL{ws:List Str}(ne:ws≠[])(fr: ∀ w∈ws,cV w):VW (jn ws) " " =ws:=by
 have e:jn ws=VF ⟨#[32]⟩ ws:=by
  unfold jn;rw[blank_eq];exact Zp _ _
 rw[e,blank_eq];refine AF (λz=>?_) ne (StrLaws.split_free _ _) fr (by rw[aaj]);have:=aaj (VF ⟨#[32]⟩ ws) ⟨#[32]⟩;rw[z] at this;have hn:VW (VF ⟨#[32]⟩ ws) ⟨#[32]⟩≠[]:=by
  unfold VW;split
  . simp
  . split
    . simp
    . rw[StrLaws.partsBetween_eq];obtain⟨p,r,e⟩:=StrLaws.partsFrom_ne (VF ⟨#[32]⟩ ws) (⟨#[32]⟩:Str).length 0 (Vd (VF ⟨#[32]⟩ ws) ⟨#[32]⟩ 0 (VF ⟨#[32]⟩ ws).length ((VF ⟨#[32]⟩ ws).length+1));rw[e];simp
 exact hn z
def aN(n:Int):Str:=TU (toString n)
def aK:Sm->List Str
 | .num n=>[aN n]
 | .of x=>[x]
 | .un a=> "not" ::aK a
 | .bin o a b=>o.w::(aK a++aK b)
def dU:Rw->List Str
 | .let_ x e=> "let" ::x::aK e
 | .leap k e=> "leap" ::aN k::aK e
 | .take l=>["take",l]
 | .free l=>["free",l]
 | .get x b=>["get",x,b]
 | .put b e=> "put" ::b::aK e
 | .send l e=> "send" ::l::aK e
 | .fetch x l=>["fetch",x,l]
 | .say d e=> "say" ::d::aK e
 | .clock x=>["clock",x]
 | .lot x n=>["lot",x,aN n]
 | .hear x d=>["hear",x,d]
theorem bR: ∀ e:Sm,(aK e).length=e.cn
 | .num _=>rfl
 | .of _=>rfl
 | .un a=>by rw[aK,Uc,bR a,Sm.cn]
 | .bin _ a b=>by rw[aK,Uc,TX,bR a,bR b,Sm.cn]
theorem ub(m:Nat): ∀ c∈(Nat.toDigits 10 m).map Y8,48<=c/\c<=57:=λc hc=>by
 obtain⟨ch,hch,e⟩:=Vb.mp hc;have r:=PyProof.Rows.digit_range (Nat.isDigit_of_mem_toDigits (by decide) (by decide) hch);rw[<- e];exact r
theorem gU{n:Int}(h0:0<=n): ∀ c∈(aN n).cps.toList,48<=c/\c<=57:=by
 obtain⟨m,rfl⟩:=Wv h0;unfold aN;rw[PySem.W.KIN.signs_num];exact ub m
theorem yA{n:Int}(h0:0<=n):cV (aN n):=λz=>by have:=gU h0 32 z;omega
theorem Hr{f:Str}{v:PV}{r:List (Str × PV)}:Wi f ((f,v)::r)=TK v:=by simp
theorem eY{f g:Str}{v:PV}{r:List (Str × PV)}{z:Option PV}(q:Wi f r=z)(n:(f == g)=false:=by decide +kernel):Wi f ((g,v)::r)=z:=by rw[Vz,n];exact q
def J7(i:Int)(w p:Nat):List (Str × PV):=[("row",.int i),("words",.ref w),("place",.int p)]
def bq(A:Nat)(i:Int)(w p:Nat):PO:= .obj A (J7 i w p)
theorem rT{A:Nat}{i:Int}{w p n:Nat}(h:w < n):(bq A i w p).dH n=true:=by simp[bq,J7,PO.dH,PV.eA,PV.dH,h]
section
variable{pg:Tb}{h:PH}{n w p k:Nat}{i:Int}(T:cx pg)(e:h[n]?=TK (bq (ae pg "@Line") i w p))
include T e
theorem Qg:kz (run pg (k+1)) "@Line" "row" (.ref n) h= .ok (.int i) h:=iB T.fM e Hr
theorem wz:kz (run pg (k+1)) "@Line" "words" (.ref n) h= .ok (.ref w) h:=iB T.fM e (eY Hr)
theorem j0:kz (run pg (k+1)) "@Line" "place" (.ref n) h= .ok (.int p) h:=iB T.fM e (eY (eY Hr))
theorem dq{g:String}{E:az}{ma:MA}:vR (run pg (k+1)) "@Line" "coming" g E ma (.ref n) h=(ma (run pg (k+1)) E h).bind (yx (run pg (k+1)) g (.ref n)):=rK T.fM e (eY (eY (eY rfl)))
theorem cP{g:String}{E:az}{ma:MA}:vR (run pg (k+1)) "@Line" "go_over" g E ma (.ref n) h=(ma (run pg (k+1)) E h).bind (yx (run pg (k+1)) g (.ref n)):=rK T.fM e (eY (eY (eY rfl)))
theorem wG{g:String}{E:az}{ma:MA}:vR (run pg (k+1)) "@Line" "close" g E ma (.ref n) h=(ma (run pg (k+1)) E h).bind (yx (run pg (k+1)) g (.ref n)):=rK T.fM e (eY (eY (eY rfl)))
theorem cK{ws:List Str}{x:Str}(ew:h[w]?=TK (.lst (ws.map PV.str)))(ex:ws[p]?=TK x):run pg (k+2) "Line.coming" [.ref n] h= .ok (.str x) h:=by
 have hp:p < ws.length:=(TR.mp ex).1;have f1:=j0 T e (k:=k);have f2:=wz T e (k:=k);have ne: ¬ (p:Int)=(ws.length:Int):=by omega
 have at1:gA (ws.map PV.str) (p:Int)=TK (.str x):=P3.gK rfl (by rw[U1,ex];rfl);rw[dn T.pL T.pN rfl];simp? [dI,ji,f1,f2,ew,TV,ne,at1]
theorem b9:run pg (k+2) "Line.go_over" [.ref n,.bl true] h= .ok .non (h.set n (bq (ae pg "@Line") i w (p+1))):=by
 have f1:=j0 T e (k:=k);have a1': ∀ E,uD (run pg (k+1)) "@Line" "place" E (.ref n) (.int p) (.int 1) h= .ok (.nx E) (h.set n (bq (ae pg "@Line") i w (p+1))):=λE=>(Kh T.fM e (by show 3 < 1000;decide)).trans (by
  have pe:gI "place" (.int ((p:Int)+1)) (J7 i w p)=J7 i w (p+1):=by
   unfold J7;rw[gI,if_neg (by decide +kernel),gI,if_neg (by decide +kernel),gI,if_pos rfl];rfl
  rw[pe];rfl)
 rw[dn T.og T.oA rfl];simp? [dz,iy,f1,a1'];exact dN (o:= .lst [])
theorem tY{ws:List Str}(ew:h[w]?=TK (.lst (ws.map PV.str)))(ex:ws.length<=p):run pg (k+2) "Line.close" [.ref n] h= .ok .non h:=by
 have f1:=j0 T e (k:=k);have f2:=wz T e (k:=k);have ne: ¬ (p:Int) < (ws.length:Int):=by omega
 rw[dn T.rS T.sG rfl];simp? [eJ,jY,f1,f2,ew,TV,ne]
end
theorem xM: ∀ n:Nat,n < 1001->((aN (n:Int)).length<=(if n<=30 then 2 else if n<=999 then 3 else 4))/\1<=(aN (n:Int)).length:=by decide +kernel
theorem Iz: ∀ n:Nat,n < 1001->aN (n:Int) ∉ W6:=by decide +kernel
noncomputable def JD:Str:= "0123456789"
def Qb(c:Nat):Bool:= !(Vd JD ⟨#[c]⟩ 0 JD.length 1).isEmpty
theorem Jx{c:Nat}{h:PH}:hI (.str ⟨#[c]⟩) (.str JD) h= .ok (.bl (Qb c)) h:=rfl
theorem BJ: ∀ c:Nat,c < 58->48<=c->Qb c=true/\g8 c=false:=by decide +kernel
theorem cY{n:Int}(h0:0<=n)(h9:n<=1000):1<=(aN n).length/\(aN n).length<=4/\(n<=30->(aN n).length<=2)/\(n<=999->(aN n).length<=3)/\aN n ∉ W6:=by
 obtain⟨m,rfl⟩:=Wv h0;obtain⟨h1,h2⟩:=xM m (by omega);refine⟨h2,?_,λz=>?_,λz=>?_,Iz m (by omega)⟩
 . split at h1
   . omega
   . split at h1<;>omega
 . rw[if_pos (by omega)] at h1;exact h1
 . split at h1
   . omega
   . rw[if_pos (by omega)] at h1;exact h1
theorem s9{n:Int}(h0:0<=n)(h9:n<=1000):gp (.str (aN n))=false:=by
 have l:=(cY h0 h9).1;have g:=gU h0;have ne:(aN n).cps.toList≠[]:=λz=>by
  have:(aN n).cps.toList.length=(aN n).length:=rfl;rw[z] at this;simp at this;omega
 have:(aN n).cps.toList.all g8=false:=by
  cases q:(aN n).cps.toList with
  | nil=>exact absurd q ne
  | cons c r =>
   obtain⟨a,b⟩:=g c (by rw[q];exact Ug)
   rw[WJ,(BJ c (by omega) a).2];rfl
 simp only[gp,this,X9,Zv]
section
variable{pg:Tb}(T:cx pg)
include T
theorem qP(j:Nat){h:PH}{n lo hi:Int}(h0:0<=n)(h1:lo<=n)(h2:n<=hi)(hh:hi=30\/hi=999\/hi=1000):run pg (j+1) "writes_number" [.str (aN n),.int lo,.int hi] h= .ok (.bl true) h:=by
 obtain⟨l1,l2,l3,l4,_⟩:=cY h0 (by omega);have ne: ¬ aN n= "" :=λz=>by rw[z] at l1;exact absurd l1 (by decide +kernel)
 have st: ∀ g,cU [.int hi] g= .ok (.str (aN hi)) g:=λg=>pj (by omega) (by omega);have lh:(aN hi).length=(if hi=30 then 2 else if hi=999 then 3 else 4):=by
  rcases hh with rfl | rfl | rfl<;>decide +kernel
 have gt: ¬ ((aN hi).length:Int) < ((aN n).length:Int):=by
  rw[lh];rcases hh with rfl | rfl | rfl
  . have:=l3 h2;simp;omega
  . have:=l4 h2;simp;omega
  . simp;omega
 have lc: ∀ g,P3.jD ⟨TL,(aN n).cps.toList.map λc=> .str ⟨#[c]⟩⟩ (bL 1 (gN 3) aV (aq hI (aa 3) (eS "0123456789")) (run pg j) [TK (.str (aN n)),TK (.int lo),TK (.int hi)]) ((aN n).cps.toList.map λc=> .str ⟨#[c]⟩) [] g= .ok (((aN n).cps.toList.map λ_=>true).map PV.bl) g:=λg=>by
  have z:(aN n).cps.toList.length<=4:=l2;refine(cO (α :=Nat) rfl (aN n).cps.toList [] (f:=λc=>TK (.bl true)) (λc mc=>?_) (by simp only[Vc];omega)).trans ?_
  . obtain⟨a,b⟩:=gU h0 c mc;have si: ∀ h,hI (.str ⟨#[c]⟩) (.str "0123456789") h= .ok (.bl true) h:=λh=>Jx.trans (by rw[(BJ c (by omega) a).1]);simp? [si]
  . rw[UU,Vm,VB];rfl
 have al:uU [.ref h.length] (h++[.lst (((aN n).cps.toList.map λ_=>true).map PV.bl)])= .ok (.bl true) (h++[.lst (((aN n).cps.toList.map λ_=>true).map PV.bl)]):=by
  rw[xx (bs:=(aN n).cps.toList.map λ_=>true) aM];simp
 have it: ∀ g,lU [.str (aN n)] g= .ok (.int n) g:=λg=>by
  show(if (aN n).length<=640 then _ else _)=_;rw[if_pos (by omega)];have:Ye (aN n)=TK n:=Zq h0 (by omega);rw[this]
 have sn: ∀ g,cU [.int n] g= .ok (.str (aN n)) g:=λg=>pj h0 (by omega);have lS: ∀(s:Str) g,s.length<=4->cN [.str s] g= .ok (.int s.length) g:=λs g q=>wL (by omega);have lS1:=λg=>lS (aN n) g l2;have lS2:=λg=>lS (aN hi) g (by rw[lh];rcases hh with rfl | rfl | rfl<;>decide);rw[run_eq T.lY rfl];simp? [c6,gY,ne,lS1,lS2,st,gt,N2,lc,al,it,sn,eq_self,h1,h2,jZ]
theorem BF{n:Int}(h0:0<=n)(h9:n<=1000)(g:PH):lU [.str (aN n)] g= .ok (.int n) g:=by
 have l2:=(cY h0 h9).2.1;show(if (aN n).length<=640 then _ else _)=_;rw[if_pos (by omega)];have:Ye (aN n)=TK n:=Zq h0 (by omega);rw[this]
theorem fm(k:Nat){h:PH}{n w p:Nat}{i v lo hi:Int}{ws:List Str}(e:h[n]?=TK (bq (ae pg "@Line") i w p))(ew:h[w]?=TK (.lst (ws.map PV.str)))(ex:ws[p]?=TK (aN v))(h0:0<=v)(h1:lo<=v)(h2:v<=hi)(hh:hi=30\/hi=999\/hi=1000):run pg (k+3) "read_number" [.ref n,.int lo,.int hi] h= .ok (.int v) (h.set n (bq (ae pg "@Line") i w (p+1))):=by
 have c1:=cK T e ew ex (k:=k);have m1:=λE=>dq T e (k:=k+1) (g:= "Line.coming") (E:=E) (ma:=af);have m2:=λE ma=>cP T e (k:=k+1) (g:= "Line.go_over") (E:=E) (ma:=ma);have w1:=qP T (k+1) (h:=h) h0 h1 h2 hh;have g1:=b9 T e (k:=k);have it:=BF T h0 (show v<=1000 by omega);rw[run_eq T.pH rfl];simp? [dG,jj,m1,c1,m2,w1,g1,it];exact dN (o:= .lst [])
end
theorem Bo.Tj(o:Bo):o.w∈W6/\gp (.str o.w)=false/\bt bf (.inr o.w)=TK (.int 2):=by cases o<;>decide +kernel
theorem m6:(TU "not")∈W6/\gp (.str "not")=false/\bt bf (.inr "not")=TK (.int 1):=by decide +kernel
theorem Iy(s:Str):(bt bf (.inr s)).isSome=decide (s∈W6):=mO rfl
theorem AR{x:Str}(h:gp (.str x)=true):x ∉ W6:=λz=>by
 have:uN x=true:=by unfold uN;simp[z]
 simp[gp,this] at h
def Ng:MS:=(aC (eM au aJ (aa 5) (ab (ag "read_sum" (ab (aa 0) (ab (aa 1) (ab (aq aA (aa 2) (eI 1)) af)))) af)))
theorem fL{ws:List Str}{p:Nat}{x:Str}{r:List Str}(e:ws.drop p=x::r):ws[p]?=TK x/\ws.drop (p+1)=r:=by
 have:=aak (xs:=ws) (i:=p) (j:=0);rw[e] at this;refine⟨by simpa using this.symm,?_⟩;rw[<- ZK,e];rfl
theorem oC{h g:PH}{n:Nat}{o:PO}(hn:n < h.length):(h++g).set n o=h.set n o++g:=ZF _ _ hn
theorem Bt{h:PH}{a b:PO}{t:Nat}(e:t=h.length):(h++[a]).set t b=h++[b]:=by
 subst e;rw[Vr _ _ (T6 _)];simp
theorem fT{h:PH}{o:PO}{t:Nat}(e:t=h.length):(h++[o])[t]?=TK o:=by subst e;exact aM
theorem sH{pg:Tb}{K:Nat}{H H':PH}{n t:Nat}{st dp c:Int}{wd v:PV}{xs ys:List PV}{e6:Option PV}(h0:H[t]?=TK (.lst ys))(r:run pg K "read_sum" [.ref n,.int st,.int (dp+1)] H= .ok v H')(ht:H'[t]?=TK (.lst xs))(l:xs.length<=10) :
  bc (gN 6) Ng (run pg K) (.int c) [TK (.ref n),TK (.int st),TK (.int dp),TK wd,TK (.bl true),TK (.ref t),e6] H= .ok (.nx [TK (.ref n),TK (.int st),TK (.int dp),TK wd,TK (.bl true),TK (.ref t),TK (.int c)]) (H'.set t (.lst (xs++[v]))):=by
 simp? [Ng,h0,r,ht]
section
variable{pg:Tb}(T:cx pg)
include T
theorem sW: ∀(e:Sm)(k:Nat){h:PH}{n w p:Nat}{i:Int}{ws r:List Str}{st:Nat}{dp:Int},e.ok->h[n]?=TK (bq (ae pg "@Line") i w p)->h[w]?=TK (.lst (ws.map PV.str))->ws.drop p=aK e++r->st<=p->p - st+e.cn<=12->dp+e.dp<=6 ->
  run pg (k+3+e.dp) "read_sum" [.ref n,.int (st:Int),.int dp] h= .ok (cz e) (h.set n (bq (ae pg "@Line") i w (p+e.cn))):=by
 have head: ∀(k:Nat){h:PH}{n w p:Nat}{i:Int}{ws:List Str}{st:Nat}{dp:Int}{x:Str},h[n]?=TK (bq (ae pg "@Line") i w p)->h[w]?=TK (.lst (ws.map PV.str))->ws[p]?=TK x->st<=p->p - st+1<=12->dp<=5->(x∈W6\/gp (.str x)=true\/ ∃ v:Int,x=aN v/\0<=v/\v<=999)->x.length<=1000-> ∀ rest:MS,
   ah (ax (fu "@Line" "coming" "Line.coming" (aa 0) af) (gN 3)) (ah (ax (ic (aq FT (aq sQ (bO "@Line" "place" (aa 0)) (aa 1)) (eI 12)) (aq He (aa 2) (eI 5))) (gN 4)) (ah (aC (fu "@Line" "go_over" "Line.go_over" (aa 0) (ab (ic (aa 4) (HH (rn false bf (aa 3)) (HH (ag "is_name" (a1 (aa 3))) (ag "writes_number" (a3 (aa 3) (eI 0) (eI 999)))))) af))) rest)) (run pg (k+3)) [TK (.ref n),TK (.int (st:Int)),TK (.int dp),TL,TL,TL,TL] h=rest (run pg (k+3)) [TK (.ref n),TK (.int (st:Int)),TK (.int dp),TK (.str x),TK (.bl true),TL,TL] (h.set n (bq (ae pg "@Line") i w (p+1))):=by
  intro k h n w p i ws st dp x e ew ex s1 s2 d1 hx lx rest;have c1:=cK T e ew ex (k:=k+1);have m1:=λE=>dq T e (k:=k+2) (g:= "Line.coming") (E:=E) (ma:=af);have m2:=λE ma=>cP T e (k:=k+2) (g:= "Line.go_over") (E:=E) (ma:=ma);have f1:=j0 T e (k:=k+2);have g1:=b9 T e (k:=k+1);have lt:((p:Int) - (st:Int)) < 12:=by omega
  have n1:=eP T (k+1) (h:=h) lx;have s6:=Iy x;rcases hx with hx | hx | ⟨v,rfl,v0,v9⟩
  . rw[decide_eq_true hx] at s6;simp? [m1,c1,f1,lt,d1,s6,m2,g1]
  . have no:=AR hx;rw[decide_eq_false no] at s6;rw[hx] at n1;simp? [m1,c1,f1,lt,d1,s6,n1,m2,g1]
  . rw[decide_eq_false (cY v0 (by omega)).2.2.2.2] at s6;rw[s9 v0 (by omega)] at n1;have w1:=qP T (k+2) (h:=h) v0 v0 v9 (.inr (.inl rfl));simp? [m1,c1,f1,lt,d1,s6,n1,w1,m2,g1]
 intro e
 induction e with
 | num v =>
  intro k h n w p i ws r st dp o e ew hd s1 s2 d1
  obtain⟨ex,_⟩:=fL hd
  simp only[Sm.cn,Sm.dp] at s2 d1 ⊢
  have l4:=(cY o.1 (show v<=1000 by have:=o.2;omega)).2.1
  have b:=head (k:=k) (dp:=dp) e ew ex s1 s2 (by omega) (.inr (.inr ⟨v,rfl,o⟩)) (by omega)
  have n1:=eP T (k+1) (h:=h.set n (bq (ae pg "@Line") i w (p+1))) (s:=aN v) (by omega)
  rw[s9 o.1 (by have:=o.2;omega)] at n1
  have s6:=Iy (aN v)
  rw[decide_eq_false (cY o.1 (show v<=1000 by have:=o.2;omega)).2.2.2.2] at s6
  have it:=BF T o.1 (show v<=1000 by have:=o.2;omega)
  rw[run_eq T.gG rfl]
  refine(congrArg (fin _) (b _)).trans ?_
  simp? [n1,s6,it,cz]
  exact dN (o:= .lst [])
 | of x =>
  intro k h n w p i ws r st dp o e ew hd s1 s2 d1
  obtain⟨ex,_⟩:=fL hd
  simp only[Sm.cn,Sm.dp] at s2 d1 ⊢
  have lx:x.length<=1000:=by have:=o.2.1;omega
  have b:=head (k:=k) (dp:=dp) e ew ex s1 s2 (by omega) (.inr (.inl o.2.2.1)) lx
  have n1:=eP T (k+1) (h:=h.set n (bq (ae pg "@Line") i w (p+1))) (s:=x) lx
  rw[o.2.2.1] at n1
  rw[run_eq T.gG rfl]
  refine(congrArg (fin _) (b _)).trans ?_
  simp? [n1,cz]
  exact dN (o:= .lst [])
 | un a ih =>
  intro k h n w p i ws r st dp o e ew hd s1 s2 d1
  obtain⟨ex,hd'⟩:=fL hd
  simp only[Sm.cn,Sm.dp] at s2 d1 ⊢
  have b:=head (k:=k+a.dp) (dp:=dp) e ew ex s1 (by have:=a.qU;omega) (by omega) (.inl m6.1) (by decide +kernel)
  have hn:=(TR.mp e).1
  have nw:w≠n:=λz=>by rw[z,e] at ew;cases ew
  have hw:=(TR.mp ew).1
  have e1:(h.set n (bq (ae pg "@Line") i w (p+1))++[.lst [.str "not"]])[n]?=TK (bq (ae pg "@Line") i w (p+1)):=cJ (Us hn)
  have e2:(h.set n (bq (ae pg "@Line") i w (p+1))++[.lst [.str "not"]])[w]?=TK (.lst (ws.map PV.str)):=cJ (by rw[Um (VI nw)];exact ew)
  have r1:=ih k (st:=st) (dp:=dp+1) o e1 e2 hd' (by omega) (by omega) (by omega)
  have ls:(h.set n (bq (ae pg "@Line") i w (p+1))).length=h.length:=UA
  rw[oC (by rw[ls];exact hn),Za] at r1
  have pc:p+1+a.cn=p+(a.cn+1):=by omega
  rw[pc] at r1
  have n1:=eP T (k+a.dp+1) (h:=h.set n (bq (ae pg "@Line") i w (p+1))) (s:= "not") (by decide +kernel)
  rw[m6.2.1] at n1
  have s6:=Iy "not"
  rw[decide_eq_true m6.1] at s6
  have kg:=m6.2.2
  have st1:=sH (pg:=pg) (K:=k+3+a.dp) (c:=0) (wd:= .str "not") (e6:=TL) (t:=h.length) (xs:=[.str "not"]) (ys:=[.str "not"]) (by rw[<- ls];exact aM) r1 (by rw[<- ls,show(h.set n (bq (ae pg "@Line") i w (p+1))).length=(h.set n (bq (ae pg "@Line") i w (p+(a.cn+1)))).length by simp];exact aM) (by simp)
  rw[Bt (by simp)] at st1
  have lp:bh ⟨TL,aP 0 1⟩ (bc (gN 6) Ng (run pg (k+a.dp+3))) (aP 0 1) [TK (.ref n),TK (.int (st:Int)),TK (.int dp),TK (.str "not"),TK (.bl true),TK (.ref h.length),TL] (h.set n (bq (ae pg "@Line") i w (p+1))++[.lst [.str "not"]])= .ok (.nx [TK (.ref n),TK (.int (st:Int)),TK (.int dp),TK (.str "not"),TK (.bl true),TK (.ref h.length),TK (.int 0)]) (h.set n (bq (ae pg "@Line") i w (p+(a.cn+1)))++[.lst [.str "not",cz a]]):=by
   rw[show k+a.dp+3=k+3+a.dp by omega];show bh ⟨TL,aP 0 1⟩ _ [.int 0] _ _=_;rw[bW,st1,aF,aU,dS];rfl
  unfold Ng at lp
  rw[show k+3+(a.dp+1)=k+a.dp+3+1 by omega,run_eq T.gG rfl]
  refine(congrArg (fin _) (b _)).trans ?_
  have r11:aP 0 (1:Int).toNat=aP 0 1:=rfl
  have fl:=cg (.un a)
  have tp:(h.set n (bq (ae pg "@Line") i w (p+(a.cn+1)))++[.lst [.str "not",cz a]])[h.length]?=TK (.lst [.str "not",cz a]):=fT (by simp)
  simp? [n1,ls,kg,Wy,r11,lp,tp]
  exact js fl e rfl (rT hw)
 | bin q a b iha ihb =>
  intro k h n w p i ws r st dp o e ew hd s1 s2 d1
  obtain⟨ex,hd'⟩:=fL hd
  simp only[Sm.cn,Sm.dp] at s2 d1 ⊢
  have ma:=Nat.le_max_left a.dp b.dp
  have mb:=Nat.le_max_right a.dp b.dp
  generalize max a.dp b.dp=mx at d1 ma mb ⊢
  obtain⟨q1,q2,kg⟩:=q.Tj
  have bb:=head (k:=k+mx) (dp:=dp) e ew ex s1 (by omega) (by omega) (.inl q1) (by cases q<;>decide +kernel)
  have hn:=(TR.mp e).1
  have nw:w≠n:=λz=>by rw[z,e] at ew;cases ew
  have hw:=(TR.mp ew).1
  have ls: ∀ X,(h.set n X).length=h.length:=λX=>UA
  have e1: ∀ P xs,(h.set n (bq (ae pg "@Line") i w P)++[.lst xs])[n]?=TK (bq (ae pg "@Line") i w P):=λP xs=>cJ (Us hn)
  have e2: ∀ P xs,(h.set n (bq (ae pg "@Line") i w P)++[.lst xs])[w]?=TK (.lst (ws.map PV.str)):=λP xs=>cJ (by rw[Um (VI nw)];exact ew)
  have h1:ws.drop (p+1)=aK a++(aK b++r):=by rw[hd'];exact TZ ..
  have h2:ws.drop (p+1+a.cn)=aK b++r:=by rw[<- ZK,h1,<- bR a,aa9]
  have ca:=a.qU
  have cb:=b.qU
  have r1:=iha (k+(mx - a.dp)) (st:=st) (dp:=dp+1) o.1 (e1 (p+1) [.str q.w]) (e2 (p+1) [.str q.w]) h1 (by omega) (by omega) (by omega)
  rw[oC (by rw[ls];exact hn),Za,show k+(mx - a.dp)+3+a.dp=k+mx+3 by omega] at r1
  have r2:=ihb (k+(mx - b.dp)) (st:=st) (dp:=dp+1) o.2 (e1 (p+1+a.cn) [.str q.w,cz a]) (e2 (p+1+a.cn) [.str q.w,cz a]) h2 (by omega) (by omega) (by omega)
  rw[oC (by rw[ls];exact hn),Za,show k+(mx - b.dp)+3+b.dp=k+mx+3 by omega,show p+1+a.cn+b.cn=p+(a.cn+b.cn+1) by omega] at r2
  have st1:=sH (pg:=pg) (c:=0) (wd:= .str q.w) (e6:=TL) (t:=h.length) (xs:=[.str q.w]) (ys:=[.str q.w]) (fT (by simp)) r1 (fT (by simp)) (by simp)
  have st2:=sH (pg:=pg) (c:=1) (wd:= .str q.w) (e6:=TK (.int 0)) (t:=h.length) (xs:=[.str q.w,cz a]) (ys:=[.str q.w,cz a]) (fT (by simp)) r2 (fT (by simp)) (by simp)
  rw[Bt (by simp)] at st1 st2
  have lp:bh ⟨TL,aP 0 2⟩ (bc (gN 6) Ng (run pg (k+mx+3))) (aP 0 2) [TK (.ref n),TK (.int (st:Int)),TK (.int dp),TK (.str q.w),TK (.bl true),TK (.ref h.length),TL] (h.set n (bq (ae pg "@Line") i w (p+1))++[.lst [.str q.w]])= .ok (.nx [TK (.ref n),TK (.int (st:Int)),TK (.int dp),TK (.str q.w),TK (.bl true),TK (.ref h.length),TK (.int 1)]) (h.set n (bq (ae pg "@Line") i w (p+(a.cn+b.cn+1)))++[.lst [.str q.w,cz a,cz b]]):=by
   show bh ⟨TL,aP 0 2⟩ _ [.int 0,.int 1] _ _=_;rw[bW,st1,aF,aU,bW];refine(congrArg (λz=>RV.bind z _) st2).trans ?_;rw[aF,aU,dS];rfl
  unfold Ng at lp
  have n1:=eP T (k+mx+1) (h:=h.set n (bq (ae pg "@Line") i w (p+1))) (s:=q.w) (by cases q<;>decide +kernel)
  rw[q2] at n1
  rw[show k+3+(mx+1)=k+mx+3+1 by omega,run_eq T.gG rfl]
  refine(congrArg (fin _) (bb _)).trans ?_
  have r11:aP 0 (2:Int).toNat=aP 0 2:=rfl
  have fl:=cg (.bin q a b)
  have l1:=ls (bq (ae pg "@Line") i w (p+1))
  have tp:(h.set n (bq (ae pg "@Line") i w (p+(a.cn+b.cn+1)))++[.lst [.str q.w,cz a,cz b]])[h.length]?=TK (.lst [.str q.w,cz a,cz b]):=fT (by simp)
  simp? [n1,l1,kg,Wy,r11,lp,tp]
  exact js fl e rfl (rT hw)
end
noncomputable def xg(lt:Str)(m:Nat):List (Str × PV):=[("latest",.str lt),("names",.ref (m+1)),("worths",.ref (m+7)),("rows",.ref (m+8)),("leaps",.ref (m+9))]
def gz(A:Nat)(lt:Str)(m:Nat):PO:= .obj A (xg lt m)
noncomputable def qD(m:Nat):List (Key × PV):=[(.inr "box",.ref (m+2)),(.inr "lock",.ref (m+3)),(.inr "lane",.ref (m+4)),(.inr "door",.ref (m+5)),(.inr "hand",.ref (m+6))]
structure DS(A:Nat)(H:PH)(m:Nat)(lt:Str)(N:Nat->List Str)(wo:List Int)(ra:List Nat)(rs:List (List Rw))(lp:List PV):Prop where
 o:H[m]?=TK (gz A lt m)
 nm: ∀ k,k < 5->H[m+2+k]?=TK (.lst ((N k).map PV.str))
 d:H[m+1]?=TK (.dct (qD m))
 w7:H[m+7]?=TK (.lst (wo.map PV.int))
 ro:H[m+8]?=TK (.lst (ra.map PV.ref))
 le:H[m+9]?=TK (.lst lp)
 rl:ra.length=rs.length
 rr: ∀(k a:Nat)(r:List Rw),ra[k]?=TK a->rs[k]?=TK r->H[a]?=TK (.lst (r.map bY))
 ri: ∀ a∈ra,m+10<=a
 nd:ra.Nodup
theorem DS.off{A:Nat}{H H':PH}{m:Nat}{lt:Str}{N:Nat->List Str}{wo:List Int}{ra:List Nat}{rs:List (List Rw)}{lp:List PV}(D:DS A H m lt N wo ra rs lp)(f: ∀ i o,m<=i->(i < m+10∨i∈ra)->H[i]?=TK o->H'[i]?=TK o):DS A H' m lt N wo ra rs lp :=
 ⟨f _ _ (by omega) (.inl (by omega)) D.o,λk hk=>f _ _ (by omega) (.inl (by omega)) (D.nm k hk),f _ _ (by omega) (.inl (by omega)) D.d,f _ _ (by omega) (.inl (by omega)) D.w7,f _ _ (by omega) (.inl (by omega)) D.ro,f _ _ (by omega) (.inl (by omega)) D.le,D.rl,λk a r e1 e2=>f _ _ (by have:=D.ri a (UW e1);omega) (.inr (UW e1)) (D.rr k a r e1 e2),D.ri,D.nd⟩
theorem DS.gr{A:Nat}{H:PH}{m:Nat}{lt:Str}{N:Nat->List Str}{wo:List Int}{ra:List Nat}{rs:List (List Rw)}{lp:List PV}(D:DS A H m lt N wo ra rs lp)(X:PH):DS A (H++X) m lt N wo ra rs lp:=D.off λi o _ _ e=>cJ e
theorem DS.set{A : Nat}{H : PH}{m : Nat}{lt : Str}{N : Nat -> List Str}{wo : List Int}{ra : List Nat}{rs : List (List Rw)}{lp : List PV}(D : DS A H m lt N wo ra rs lp){n : Nat}{x : PO}(hn : m + 10 <= n)(hr : n ∉ ra) : DS A (H.set n x) m lt N wo ra rs lp := D.off λi o h1 h2 e => by
  rw [Um (λz => ?_)]; · exact e
  subst z;rcases h2 with h2 | h2
  . omega
  . exact hr h2
def fz(k:Nat):Str:=W5.getD k ""
theorem K6: ∀ k,k < 5-> ∀ m,bt (qD m) (.inr (fz k))=TK (.ref (m+2+k)):=λk hk m=>by
 have e: ∀{a:Str}{v:PV}{r:List (Key × PV)},bt ((.inr a,v)::r) (.inr a)=TK v:=λ{a v r}=>sC;have n: ∀{a b:Str}{v:PV}{r:List (Key × PV)},¬ b=a->bt ((.inr b,v)::r) (.inr a)=bt r (.inr a):=λ{a b v r} z=>sO (by simpa using z)
 match k,hk with
 | 0,_=>exact e
 | 1,_=>exact(n (by decide +kernel)).trans e
 | 2,_=>exact(n (by decide +kernel)).trans ((n (by decide +kernel)).trans e)
 | 3,_=>exact(n (by decide +kernel)).trans ((n (by decide +kernel)).trans ((n (by decide +kernel)).trans e))
 | 4,_=>exact(n (by decide +kernel)).trans ((n (by decide +kernel)).trans ((n (by decide +kernel)).trans ((n (by decide +kernel)).trans e)))
section
variable{pg:Tb}{H:PH}{m k:Nat}{lt:Str}{N:Nat->List Str}{wo:List Int}{ra:List Nat}{rs:List (List Rw)}{lp:List PV}(T:cx pg)(D:DS (ae pg "@Draft") H m lt N wo ra rs lp)
include T D
theorem Az:kz (run pg (k+1)) "@Draft" "latest" (.ref m) H= .ok (.str lt) H:=iB T.fI D.o Hr
theorem gB:kz (run pg (k+1)) "@Draft" "names" (.ref m) H= .ok (.ref (m+1)) H:=iB T.fI D.o (eY Hr)
theorem uE:kz (run pg (k+1)) "@Draft" "worths" (.ref m) H= .ok (.ref (m+7)) H:=iB T.fI D.o (eY (eY Hr))
theorem jA:kz (run pg (k+1)) "@Draft" "rows" (.ref m) H= .ok (.ref (m+8)) H:=iB T.fI D.o (eY (eY (eY Hr)))
theorem xi:kz (run pg (k+1)) "@Draft" "leaps" (.ref m) H= .ok (.ref (m+9)) H:=iB T.fI D.o (eY (eY (eY (eY Hr))))
theorem kb{f:Str}{g:String}{E:az}{ma:MA}(q:(xg lt m).lookup f=TL):vR (run pg (k+1)) "@Draft" f g E ma (.ref m) H=(ma (run pg (k+1)) E H).bind (yx (run pg (k+1)) g (.ref m)):=rK T.fI D.o q
theorem cW{j:Nat}(hj:j < 5):bu (.ref (m+1)) (.str (fz j)) H= .ok (.ref (m+2+j)) H:=by
 rw[va,D.d,AI,K6 j hj m];rfl
theorem uK{j l:Nat}(hj:j < 5)(hl:l < 5)(el:lt=fz l)(lj:l<=j)(iT:(N j).length < 4):run pg (k+2) "Draft.may_tell" [.ref m,.str (fz j)] H= .ok (.bl true) H:=by
 have f1:=Az T D (k:=k);have f2:=gB T D (k:=k);have i1:=cW T D hj;have idx: ∀ j,j < 5->fz j∈W5/\W5.idxOf (fz j)=j:=by decide +kernel
 have k1: ∀ g,vZ (.ktup [.str "box",.str "lock",.str "lane",.str "door",.str "hand"]) [.str (fz j)] g= .ok (.int (j:Nat)) g:=λg=>(Ap (ss:=W5) (idx j hj).1).trans (by rw[(idx j hj).2]);have k2: ∀ g,vZ (.ktup [.str "box",.str "lock",.str "lane",.str "door",.str "hand"]) [.str lt] g= .ok (.int (l:Nat)) g:=λg=>by rw[el];exact(Ap (ss:=W5) (idx l hl).1).trans (by rw[(idx l hl).2])
 have lt4:((N j).length:Int) < 4:=by omega
 have le:(l:Int)<=(j:Int):=by omega
 rw[dn T.ku T.k7 rfl];simp? [cR,fY,NY,f1,f2,k1,k2,i1,D.nm j hj,TV,lt4,le]
theorem wN{a:Nat}(ea:ra.getLast?=TK a):bu (.ref (m+8)) (.int (-1)) H= .ok (.ref a) H:=by
 have ne:ra≠[]:=λz=>by rw[z] at ea;cases ea
 have p0:=XO.mpr ne;rw[va,D.ro,x6];have:gA (ra.map PV.ref) (-1)=TK (.ref a):=by
  have e:vQ (ra.map PV.ref).length (-1)=TK (ra.length - 1):=by
   unfold vQ;rw[TV,if_neg (by decide),if_pos (by omega),show(-1+(ra.length:Int)).toNat=ra.length - 1 by omega]
  unfold gA;rw[e];show(ra.map PV.ref)[ra.length - 1]?=_;rw[U1,<- WV,ea];rfl
 rw[this];rfl
theorem vV{a:Nat}{r:List Rw}(ea:ra.getLast?=TK a)(er:rs.getLast?=TK r)(iT:r.length < 30):run pg (k+2) "Draft.may_have_row" [.ref m] H= .ok (.bl true) H:=by
 have ne:ra≠[]:=λz=>by rw[z] at ea;cases ea
 have p0:=XO.mpr ne;have f1:=jA T D (k:=k);have i1:=wN T D ea;have e1:H[a]?=TK (.lst (r.map bY)):=D.rr (ra.length - 1) a r (by rw[<- WV];exact ea) (by rw[D.rl,<- WV];exact er);have gt:(0:Int) < (ra.length:Int):=by omega
 have lt:(r.length:Int) < 30:=by omega
 rw[dn T.iA T.iH rfl];simp? [bH,dR,f1,D.ro,TV,gt,i1,e1,lt]
theorem ig{x:Str}(no: ∀ j,j < 5->x ∉ N j):run pg (k+2) "Draft.has_name" [.ref m,.str x] H= .ok (.bl false) H:=by
 have f1:=gB T D (k:=k);have i1:=λj hj=>cW T D (j:=j) hj;have lc:P3.jD ⟨TL,W5.map PV.str⟩ (bL 1 (gN 2) aV (aq hI (aa 1) (aq bu (bO "@Draft" "names" (aa 0)) (aa 2))) (run pg (k+1)) [TK (.ref m),TK (.str x)]) (W5.map PV.str) [] H= .ok (([false,false,false,false,false]:List Bool).map PV.bl) H:=by
  have all: ∀ s∈W5,∃ j,j < 5/\s=fz j:=by decide +kernel
  refine(cO (α :=Str) rfl W5 [] (f:=λ_=>TK (.bl false)) (λs ms=>?_) (by decide +kernel)).trans rfl;obtain⟨j,hj,rfl⟩:=all s ms;have q:hI (.str x) (.ref (m+2+j)) H= .ok (.bl false) H:=(HF (D.nm j hj)).trans (by rw[decide_eq_false (no j hj)]);have i2:=i1 j hj;simp? [f1,i2,q]
 have al:xG [.ref H.length] (H++[.lst (([false,false,false,false,false]:List Bool).map PV.bl)])= .ok (.bl false) (H++[.lst (([false,false,false,false,false]:List Bool).map PV.bl)]):=(N1 (bs:=[false,false,false,false,false]) aM).trans rfl;have al':xG [.ref H.length] (H++[.lst [.bl false,.bl false,.bl false,.bl false,.bl false]])= .ok (.bl false) (H++[.lst [.bl false,.bl false,.bl false,.bl false,.bl false]]):=al;rw[dn T.ko T.kU rfl];have lc':P3.jD ⟨TL,[.str "box",.str "lock",.str "lane",.str "door",.str "hand"]⟩ (bL 1 (gN 2) aV (aq hI (aa 1) (aq bu (bO "@Draft" "names" (aa 0)) (aa 2))) (run pg (k+1)) [TK (.ref m),TK (.str x)]) [.str "box",.str "lock",.str "lane",.str "door",.str "hand"] [] H= .ok (([false,false,false,false,false]:List Bool).map PV.bl) H:=lc;simp? [cQ,f9,lc',al',jZ]
end
theorem bC{h h':PH}{v:PV}(l:h'.length=h.length):P3.settle h v h'= .ok v h':=by
 unfold P3.settle;split
 . rw[<- l,YI]
 . rfl
theorem eU{h h':PH}{v:PV}{i:Nat}{o o':PO}(e:h[i]?=TK o)(e':h'[i]?=TK o')(ne:o≠o')(u:o'.dH h.length=false):P3.settle h v h'= .ok v h':=by
 unfold P3.settle;rw[if_neg];intro z;rw[Uw] at z;have hi:i < h.length:=(TR.mp e).1;obtain⟨o2,e2,_,q⟩:=kK z.2 (i:=i) (o':=o') (by rw[aah,if_pos hi];exact e');rw[e] at e2;cases e2;rcases q with q | q
 . exact ne q
 . rw[u] at q;cases q
noncomputable def mn(N:Nat->List Str)(j:Nat)(x:Str):Nat->List Str:=λk=>if k=j then N j++[x] else N k
theorem DS.tell{A:Nat}{H:PH}{m:Nat}{lt:Str}{N:Nat->List Str}{wo:List Int}{ra:List Nat}{rs:List (List Rw)}{lp:List PV}(D:DS A H m lt N wo ra rs lp){j:Nat}(hj:j < 5)(x:Str) :
  DS A ((H.set m (gz A (fz j) m)).set (m+2+j) (.lst ((N j++[x]).map PV.str))) m (fz j) (mn N j x) wo ra rs lp:=by
 have ln: ∀ i o,H[i]?=TK o->i < H.length:=λi o e=>(TR.mp e).1;have ot: ∀ i o,i≠m->i≠m+2+j->H[i]?=TK o->((H.set m (gz A (fz j) m)).set (m+2+j) (.lst ((N j++[x]).map PV.str)))[i]?=TK o:=λi o h1 h2 e=>by
  rw[Um (VI h2),Um (VI h1)];exact e
 refine⟨?_,λk hk=>?_,ot _ _ (by omega) (by omega) D.d,ot _ _ (by omega) (by omega) D.w7,ot _ _ (by omega) (by omega) D.ro,ot _ _ (by omega) (by omega) D.le,D.rl,λk a r e1 e2=>?_,D.ri,D.nd⟩
 . rw[Um (by omega)];exact Us (ln _ _ D.o)
 . by_cases q:k=j
   . subst q;rw[Us (by rw[UA];exact ln _ _ (D.nm k hk))];unfold mn;rw[if_pos rfl]
   . unfold mn;rw[if_neg q];exact ot _ _ (by omega) (by omega) (D.nm k hk)
 . have:=D.ri a (UW e1);exact ot _ _ (by omega) (by omega) (D.rr k a r e1 e2)
theorem DS.hand{A:Nat}{H:PH}{m:Nat}{lt:Str}{N:Nat->List Str}{wo:List Int}{ra:List Nat}{rs:List (List Rw)}{lp:List PV}(D:DS A H m lt N wo ra rs lp) :
  DS A ((H++[PO.lst []]).set (m+8) (PO.lst ((ra++[H.length]).map PV.ref))) m lt N wo (ra++[H.length]) (rs++[[]]) lp:=by
 have ln: ∀ i o,H[i]?=TK o->i < H.length:=λi o e=>(TR.mp e).1;have l9:=ln _ _ D.le;have ot: ∀ i o,i≠m+8->H[i]?=TK o->((H++[PO.lst []]).set (m+8) (PO.lst ((ra++[H.length]).map PV.ref)))[i]?=TK o:=λi o h1 e=>by
  rw[Um (VI h1)];exact cJ e
 refine⟨ot _ _ (by omega) D.o,λk hk=>ot _ _ (by omega) (D.nm k hk),ot _ _ (by omega) D.d,ot _ _ (by omega) D.w7,Us (by rw[TX];omega),ot _ _ (by omega) D.le,by simp[D.rl],λk a r e1 e2=>?_,λa ma=>?_,?_⟩
 . rcases Xm k ra.length with z | z
   . rw[Uq z] at e1;rw[Uq (by rw[<- D.rl];exact z)] at e2;have:=D.ri a (UW e1);exact ot _ _ (by omega) (D.rr k a r e1 e2)
   . rw[Uo z] at e1;rw[Uo (by rw[<- D.rl];exact z),<- D.rl] at e2;have k0:k - ra.length=0:=by
      have:=(TR.mp e1).1;simp at this;omega
     rw[k0] at e1 e2;cases e1;cases e2;rw[Um (by omega)];exact aM
 . rcases Uz.mp ma with ma | ma
   . exact D.ri a ma
   . rw[UD.mp ma];omega
 . refine Xq.mpr ⟨D.nd,by simp,λa ma b mb=>?_⟩;rw[UD.mp mb];intro z;obtain⟨k,ek⟩:=XD ma;obtain⟨r,er⟩: ∃ r,rs[k]?=TK r:=⟨_,UI (by rw[<- D.rl];exact(TR.mp ek).1)⟩
   have:=ln _ _ (D.rr k a r ek er);omega
theorem jK{n:Nat}: ∀ xs:List PV,PV.eA n (xs++[.ref n])=false
 | []=>by simp[PV.eA,PV.dH]
 | x::r=>by rw[Vf,PV.eA,jK r,Zv]
section
variable{pg:Tb}{H:PH}{m k:Nat}{lt:Str}{N:Nat->List Str}{wo:List Int}{ra:List Nat}{rs:List (List Rw)}{lp:List PV}(T:cx pg)(D:DS (ae pg "@Draft") H m lt N wo ra rs lp)
include T D
theorem uf{s:Str}(E:az):kf (run pg (k+1)) "@Draft" "latest" E (.str s) (.ref m) H= .ok (.nx E) (H.set m (gz (ae pg "@Draft") s m)):=(nT T.fI D.o (by show 5 < 1000;decide)).trans (by
 have:gI "latest" (.str s) (xg lt m)=xg s m:=by unfold xg;rw[gI,if_pos rfl]
 rw[this];rfl)
theorem wm{j:Nat}(hj:j < 4){x:Str}(iT:(N j).length<=10):run pg (k+2) "Draft.tell" [.ref m,.str (fz j),.str x] H= .ok .non ((H.set m (gz (ae pg "@Draft") (fz j) m)).set (m+2+j) (.lst ((N j++[x]).map PV.str))):=by
 have p1:=λE=>uf T D (k:=k) (s:=fz j) E;have D1:DS (ae pg "@Draft") (H.set m (gz (ae pg "@Draft") (fz j) m)) m (fz j) N wo ra rs lp:=by
  have ln:=(TR.mp D.o).1;have ot: ∀ i o,i≠m->H[i]?=TK o->(H.set m (gz (ae pg "@Draft") (fz j) m))[i]?=TK o:=λi o h1 e=>by rw[Um (VI h1)];exact e
  exact⟨Us ln,λk hk=>ot _ _ (by omega) (D.nm k hk),ot _ _ (by omega) D.d,ot _ _ (by omega) D.w7,ot _ _ (by omega) D.ro,ot _ _ (by omega) D.le,D.rl,λk a r e1 e2=>ot _ _ (by have:=D.ri a (UW e1);omega) (D.rr k a r e1 e2),D.ri,D.nd⟩
 have f1:=gB T D1 (k:=k);have i1:=cW T D1 (j:=j) (by omega);have n1:=D1.nm j (by omega);have no: ∀ j,j < 4-> ¬ fz j= "hand" :=by decide +kernel
 have no':=no j hj;rw[dn T.jU T.jN rfl];generalize hX:H.set m (gz (ae pg "@Draft") (fz j) m)=X at p1 f1 i1 n1 D1 ⊢;have hz:((N j).map PV.str).length < 16777216:=by rw[TV];omega
 have e1:(N j++[x]).map PV.str=(N j).map PV.str++[.str x]:=by simp
 rw[e1];generalize (N j).map PV.str=Y at n1 hz ⊢;simp? [du,gD,p1,f1,i1,n1,no'];exact bC (by rw[UA,<- hX,UA])
theorem Be{x:Str}(iT:(N 4).length<=10)(fr:ra.length<=10):run pg (k+2) "Draft.tell" [.ref m,.str "hand",.str x] H= .ok .non ((((H.set m (gz (ae pg "@Draft") "hand" m)).set (m+6) (PO.lst ((N 4++[x]).map PV.str)))++[PO.lst []]).set (m+8) (PO.lst ((ra++[H.length]).map PV.ref))):=by
 have p1:=λE=>uf T D (k:=k) (s:= "hand") E;have D2:=D.tell (j:=4) (by decide) x;have ln:=(TR.mp D.o).1;have ot: ∀ i o,i≠m->H[i]?=TK o->(H.set m (gz (ae pg "@Draft") "hand" m))[i]?=TK o:=λi o h1 e=>by rw[Um (VI h1)];exact e
 have D1:DS (ae pg "@Draft") (H.set m (gz (ae pg "@Draft") "hand" m)) m "hand" N wo ra rs lp :=
  ⟨Us ln,λk hk=>ot _ _ (by omega) (D.nm k hk),ot _ _ (by omega) D.d,ot _ _ (by omega) D.w7,ot _ _ (by omega) D.ro,ot _ _ (by omega) D.le,D.rl,λk a r e1 e2=>ot _ _ (by have:=D.ri a (UW e1);omega) (D.rr k a r e1 e2),D.ri,D.nd⟩
 have f1:=gB T D1 (k:=k);have i1:bu (.ref (m+1)) (.str "hand") (H.set m (gz (ae pg "@Draft") "hand" m))= .ok (.ref (m+6)) (H.set m (gz (ae pg "@Draft") "hand" m)):=cW T D1 (j:=4) (by decide);have n1:(H.set m (gz (ae pg "@Draft") "hand" m))[m+6]?=TK (.lst ((N 4).map PV.str)):=D1.nm 4 (by decide);have D2':DS (ae pg "@Draft") ((H.set m (gz (ae pg "@Draft") "hand" m)).set (m+6) (.lst ((N 4++[x]).map PV.str))) m "hand" (mn N 4 x) wo ra rs lp:=D2;have f2:=jA T D2' (k:=k);have r2:=D2'.ro;have hz:((N 4).map PV.str).length < 16777216:=by rw[TV];omega
 have e1:(N 4++[x]).map PV.str=(N 4).map PV.str++[.str x]:=by simp
 have lX:((H.set m (gz (ae pg "@Draft") "hand" m)).set (m+6) (PO.lst ((N 4++[x]).map PV.str))).length=H.length:=by simp
 have e0:=D.ro;rw[dn T.jU T.jN rfl];rw[e1] at f2 r2 lX ⊢;generalize H.set m (gz (ae pg "@Draft") "hand" m)=X at p1 f1 i1 n1 f2 r2 lX ⊢;generalize (N 4).map PV.str=Y at n1 hz f2 r2 lX ⊢;generalize hZ:X.set (m+6) (PO.lst (Y++[.str x]))=Z at f2 r2 lX ⊢;have r3:(Z++[PO.lst []])[m+8]?=TK (.lst (ra.map PV.ref)):=cJ r2;have hr:(ra.map PV.ref).length < 16777216:=by rw[TV];omega
 have e2:(ra++[H.length]).map PV.ref=ra.map PV.ref++[.ref H.length]:=by simp
 rw[e2];generalize ra.map PV.ref=R at r2 r3 hr e0 ⊢;simp? [du,gD,p1,f1,i1,n1,hZ,f2,r2,lX,r3];have l8:=(TR.mp r3).1;exact eU e0 (Us l8) (λz=>by injection z with z;have:=congrArg Xz z;simp at this) (jK (n:=H.length) R)
end
def dW:Rw->List (Str × PV × List Str)
 | .let_ x e=>[("pocket",.str x,[x]),("sum",cz e,aK e)]
 | .leap k e=>[("target",.int k,[aN k]),("sum",cz e,aK e)]
 | .take l=>[("lock",.str l,[l])]
 | .free l=>[("lock",.str l,[l])]
 | .get x b=>[("pocket",.str x,[x]),("box",.str b,[b])]
 | .put b e=>[("box",.str b,[b]),("sum",cz e,aK e)]
 | .send l e=>[("lane",.str l,[l]),("sum",cz e,aK e)]
 | .fetch x l=>[("pocket",.str x,[x]),("lane",.str l,[l])]
 | .say d e=>[("door",.str d,[d]),("sum",cz e,aK e)]
 | .clock x=>[("pocket",.str x,[x])]
 | .lot x n=>[("pocket",.str x,[x]),("chances",.int n,[aN n])]
 | .hear x d=>[("pocket",.str x,[x]),("door",.str d,[d])]
theorem vX(r:Rw):r.ps=(dW r).map (·.2.1):=by cases r<;>rfl
theorem uJ(r:Rw):dU r=r.w::(dW r).flatMap (·.2.2):=by cases r<;>simp [dU,dW,Rw.w]
theorem zh: ∀ q∈([("let",["pocket", "sum"]),("leap",["target", "sum"]),("take",["lock"]),("free",["lock"]),("get",["pocket", "box"]),("put",["box", "sum"]),("send",["lane", "sum"]),("fetch",["pocket", "lane"]),("say",["door", "sum"]),("clock",["pocket"]),("lot",["pocket", "chances"]),("hear",["pocket", "door"])]:List (Str × List Str)),bt ba (.inr q.1)=TK (.ktup (q.2.map PV.str)):=by decide +kernel
theorem B5(r:Rw):bt ba (.inr r.w)=TK (.ktup ((dW r).map λq=> .str q.1)):=by
 cases r with
 | let_ x e=>exact zh ("let",["pocket", "sum"]) (by decide +kernel)
 | leap k e=>exact zh ("leap",["target", "sum"]) (by decide +kernel)
 | take l=>exact zh ("take",["lock"]) (by decide +kernel)
 | free l=>exact zh ("free",["lock"]) (by decide +kernel)
 | get x b=>exact zh ("get",["pocket", "box"]) (by decide +kernel)
 | put b e=>exact zh ("put",["box", "sum"]) (by decide +kernel)
 | send l e=>exact zh ("send",["lane", "sum"]) (by decide +kernel)
 | fetch x l=>exact zh ("fetch",["pocket", "lane"]) (by decide +kernel)
 | say d e=>exact zh ("say",["door", "sum"]) (by decide +kernel)
 | clock x=>exact zh ("clock",["pocket"]) (by decide +kernel)
 | lot x n=>exact zh ("lot",["pocket", "chances"]) (by decide +kernel)
 | hear x d=>exact zh ("hear",["pocket", "door"]) (by decide +kernel)
structure LS (A:Nat) (H:PH) (m n w:Nat) (ra:List Nat) (i:Int) (p:Nat) (ws:List Str):Prop where
 e:H[n]?=TK (bq A i w p)
 ew:H[w]?=TK (.lst (ws.map PV.str))
 hn:m+10<=n
 hr:n ∉ ra
theorem LS.go{A:Nat}{H:PH}{m n w:Nat}{ra:List Nat}{i:Int}{p:Nat}{ws:List Str}(L:LS A H m n w ra i p ws)(p':Nat):LS A (H.set n (bq A i w p')) m n w ra i p' ws:=by
 have nw:w≠n:=λz=>by have:=L.ew;rw[z,L.e] at this;cases this
 exact⟨Us (TR.mp L.e).1,by rw[Um (VI nw)];exact L.ew,L.hn,L.hr⟩
theorem LS.gr{A:Nat}{H:PH}{m n w:Nat}{ra:List Nat}{i:Int}{p:Nat}{ws:List Str}(L:LS A H m n w ra i p ws)(X:PH):LS A (H++X) m n w ra i p ws:=⟨cJ L.e,cJ L.ew,L.hn,L.hr⟩
def iK(pg:Tb)(N:Nat->List Str)(q:Str × PV × List Str):Prop:= ∀(k:Nat){H:PH}{m:Nat}{lt:Str}{wo:List Int}{ra:List Nat}{rs:List (List Rw)}{lp:List PV}{n w p:Nat}{i:Int}{ws r:List Str},DS (ae pg "@Draft") H m lt N wo ra rs lp->LS (ae pg "@Line") H m n w ra i p ws->ws.drop p=q.2.2++r ->
 run pg (k+9) "read_part" [.ref m,.ref n,.str q.1] H= .ok q.2.1 (H.set n (bq (ae pg "@Line") i w (p+q.2.2.length)))
section
variable{pg:Tb}(T:cx pg)
include T
theorem oB{N:Nat->List Str}{e:Sm}(o:kr e):iK pg N ("sum",cz e,aK e):=by
 intro k H m lt wo ra rs lp n w p i ws r D L hd;have f1:=j0 T L.e (k:=k+7);have dp:=e.qU;have r1:=sW T e (k+(5 - e.dp)) (st:=p) (dp:=1) o.1 L.e L.ew hd (T6 _) (by have:=o.2.2;omega) (by have:=o.2.1;omega);rw[show k+(5 - e.dp)+3+e.dp=k+8 by have:=o.2.1;omega] at r1;rw[run_eq T.dM rfl];simp? [bV,de,f1,r1];rw[bR];exact bC UA
theorem yt{N:Nat->List Str}{v:Int}(h0:0<=v)(h1:v<=30):iK pg N ("target",.int v,[aN v]):=by
 intro k H m lt wo ra rs lp n w p i ws r D L hd;have r1:=fm T (k+5) (lo:=0) (hi:=30) L.e L.ew (fL hd).1 h0 h0 h1 (.inl rfl);rw[run_eq T.dM rfl];simp? [bV,de,r1];exact bC UA
theorem wj{N:Nat->List Str}{v:Int}(h0:2<=v)(h1:v<=1000):iK pg N ("chances",.int v,[aN v]):=by
 intro k H m lt wo ra rs lp n w p i ws r D L hd;have r1:=fm T (k+5) (lo:=2) (hi:=1000) L.e L.ew (fL hd).1 (by omega) h0 h1 (.inr (.inr rfl));rw[run_eq T.dM rfl];simp? [bV,de,r1];exact bC UA
theorem eR{N:Nat->List Str}{x:Str}(o:aL x):iK pg N ("pocket",.str x,[x]):=by
 intro k H m lt wo ra rs lp n w p i ws r D L hd;have lx:x.length<=1000:=by have:=o.2.1;omega
 have c1:=cK T L.e L.ew (fL hd).1 (k:=k+6);have m1:=λE=>dq T L.e (k:=k+7) (g:= "Line.coming") (E:=E) (ma:=af);have m2:=λE ma=>cP T L.e (k:=k+7) (g:= "Line.go_over") (E:=E) (ma:=ma);have g1:=b9 T L.e (k:=k+6);have n1:=eP T (k+6) (h:=H) lx;rw[o.2.2.1] at n1;rw[run_eq T.dM rfl];simp? [bV,de,m1,c1,n1,m2,g1];exact bC UA
theorem dO{N:Nat->List Str}{j:Nat}(hj:j < 4){x:Str}(mx:x∈N j):iK pg N (fz j,.str x,[x]):=by
 intro k H m lt wo ra rs lp n w p i ws r D L hd;have c1:=cK T L.e L.ew (fL hd).1 (k:=k+6);have m1:=λE=>dq T L.e (k:=k+7) (g:= "Line.coming") (E:=E) (ma:=af);have m2:=λE ma=>cP T L.e (k:=k+7) (g:= "Line.go_over") (E:=E) (ma:=ma);have g1:=b9 T L.e (k:=k+6);have f1:=gB T D (k:=k+7);have i1:=cW T D (j:=j) (by omega);have q1:hI (.str x) (.ref (m+2+j)) H= .ok (.bl true) H:=(HF (D.nm j (by omega))).trans (by rw[decide_eq_true mx]);have no: ∀ j,j < 4-> ¬ fz j= "sum" /\ ¬ fz j= "target" /\ ¬ fz j= "chances" /\ ¬ fz j= "pocket" :=by decide +kernel
 obtain⟨z1,z2,z3,z4⟩:=no j hj;rw[run_eq T.dM rfl];simp? [bV,de,z1,z2,z3,z4,m1,c1,m2,f1,i1,q1,g1];exact bC UA
theorem LG{N:Nat->List Str}{L:List Str}{k:Nat}{r:Rw}(ok:kD L k r)(k30:k<=30)(nm:pb (N 0) (N 1) (N 2) (N 3) r)(hL: ∀ x∈L,aL x): ∀ q∈dW r,iK pg N q:=by
 have one: ∀{a},iK pg N a-> ∀ q∈[a],iK pg N q:=λh=>TN.mpr ⟨h,λ_ m=>nomatch m⟩;have two: ∀{a b},iK pg N a->iK pg N b-> ∀ q∈[a,b],iK pg N q:=λh h'=>TN.mpr ⟨h,one h'⟩;cases r with
 | let_ x e=>exact two (eR T (hL x ok.1)) (oB T ok.2)
 | leap v e=>exact two (yt T ok.1 (by have:=ok.2.1;omega)) (oB T ok.2.2)
 | take l=>exact one (dO T (j:=1) (by decide) nm)
 | free l=>exact one (dO T (j:=1) (by decide) nm)
 | get x b=>exact two (eR T (hL x ok)) (dO T (j:=0) (by decide) nm)
 | put b e=>exact two (dO T (j:=0) (by decide) nm) (oB T ok)
 | send l e=>exact two (dO T (j:=2) (by decide) nm) (oB T ok)
 | fetch x l=>exact two (eR T (hL x ok)) (dO T (j:=2) (by decide) nm)
 | say d e=>exact two (dO T (j:=3) (by decide) nm) (oB T ok)
 | clock x=>exact one (eR T (hL x ok))
 | lot x v=>exact two (eR T (hL x ok.1)) (wj T ok.2.1 ok.2.2)
 | hear x d=>exact two (eR T (hL x ok)) (dO T (j:=3) (by decide) nm)
end
def Sj:MS:=(aC (eM au aJ (aa 3) (ab (ag "read_part" (a3 (aa 0) (aa 1) (aa 4))) af)))
theorem DS.A6{A:Nat}{H:PH}{m:Nat}{lt:Str}{N:Nat->List Str}{wo:List Int}{ra:List Nat}{a:Nat}{rs:List (List Rw)}{r:List Rw}{lp:List PV}(D:DS A H m lt N wo (ra++[a]) (rs++[r]) lp)(x:Rw) :
  DS A (H.set a (.lst ((r++[x]).map bY))) m lt N wo (ra++[a]) (rs++[r++[x]]) lp:=by
 have ia:=D.ri a (by simp);have lr:ra.length=rs.length:=by have:=D.rl;simp at this;exact this
 have ot: ∀ i o,i≠a->H[i]?=TK o->(H.set a (PO.lst ((r++[x]).map bY)))[i]?=TK o:=λi o h1 e=>by rw[Um (VI h1)];exact e
 refine⟨ot _ _ (by omega) D.o,λk hk=>ot _ _ (by omega) (D.nm k hk),ot _ _ (by omega) D.d,ot _ _ (by omega) D.w7,ot _ _ (by omega) D.ro,ot _ _ (by omega) D.le,by simp[lr],λk b s e1 e2=>?_,D.ri,D.nd⟩;rcases Xm k ra.length with z | z
 . have e1':=e1;rw[Uq z] at e1';rw[Uq (by omega)] at e2;have nd:=D.nd;have ne:b≠a:=λq=>by
    subst q;rw[Xq] at nd;exact nd.2.2 b (UW e1') b (by simp) rfl
   exact ot _ _ ne (D.rr k b s e1 (by rw[Uq (by omega)];exact e2))
 . have k0:k=ra.length:=by have:=(TR.mp e1).1;simp at this;omega
   subst k0;have l:=D.rr ra.length a r (by simp) (by rw[lr];simp);rw[Uo (T6 _),Wk] at e1;rw[lr,Uo (T6 _),Wk] at e2;cases e1;cases e2;exact Us (TR.mp l).1
theorem DS.GB{A:Nat}{H:PH}{m:Nat}{lt:Str}{N:Nat->List Str}{wo:List Int}{ra:List Nat}{rs:List (List Rw)}{lp:List PV}(D:DS A H m lt N wo ra rs lp)(z:PV):DS A (H.set (m+9) (.lst (lp++[z]))) m lt N wo ra rs (lp++[z]):=by
 have ot: ∀ i o,i≠m+9->H[i]?=TK o->(H.set (m+9) (PO.lst (lp++[z])))[i]?=TK o:=λi o h1 e=>by rw[Um (VI h1)];exact e
 exact⟨ot _ _ (by omega) D.o,λk hk=>ot _ _ (by omega) (D.nm k hk),ot _ _ (by omega) D.d,ot _ _ (by omega) D.w7,ot _ _ (by omega) D.ro,Us (TR.mp D.le).1,D.rl,λk a r e1 e2=>ot _ _ (by have:=D.ri a (UW e1);omega) (D.rr k a r e1 e2),D.ri,D.nd⟩
theorem vB{h g:PH}{v:PV}{i j:Nat}{o o' q q':PO}(hv:v.flat=true)(e:h[i]?=TK o)(m:o.cF=o'.cF)(u:o'.dH h.length=true)(e2:h[j]?=TK q)(m2:q.cF=q'.cF)(u2:q'.dH h.length=true):P3.settle h v ((h.set i o').set j q'++g)= .ok v ((h.set i o').set j q'):=by
 have k:bF h.length h ((h.set i o').set j q'++g)=true:=by
  have h1:=da u h (h++g) i o (fc _ h g) e m;have h2:=da u2 h _ j q h1 e2 m2
  rwa[oC (TR.mp e).1,oC (by rw[UA];exact(TR.mp e2).1)] at h2
 unfold P3.settle;rw[hv,k];simp[Ww]
theorem so{h g:PH}{v:PV}{i j l:Nat}{o o' q q' s s':PO}(hv:v.flat=true)(e:h[i]?=TK o)(m:o.cF=o'.cF)(u:o'.dH h.length=true)(e2:h[j]?=TK q)(m2:q.cF=q'.cF)(u2:q'.dH h.length=true)(e3:h[l]?=TK s)(m3:s.cF=s'.cF)(u3:s'.dH h.length=true):P3.settle h v (((h.set i o').set j q').set l s'++g)= .ok v (((h.set i o').set j q').set l s'):=by
 have k:bF h.length h (((h.set i o').set j q').set l s'++g)=true:=by
  have h1:=da u h (h++g) i o (fc _ h g) e m;have h2:=da u2 h _ j q h1 e2 m2;have h3:=da u3 h _ l s h2 e3 m3
  rwa[oC (TR.mp e).1,oC (by rw[UA];exact(TR.mp e2).1),oC (by rw[UA,UA];exact(TR.mp e3).1)] at h3
 unfold P3.settle;rw[hv,k];simp[Ww]
section
variable{pg:Tb}(T:cx pg)
include T
theorem wB(k:Nat){N:Nat->List Str}{m n w:Nat}{lt:Str}{wo:List Int}{ra:List Nat}{rs:List (List Rw)}{lp:List PV}{i:Int}{ws:List Str}{wd:Option PV}{xs0:List PV}: ∀(qs:List (Str × PV × List Str))(X:PH)(xs:List PV)(p:Nat)(r:List Str)(e4:Option PV),(∀ q∈qs,iK pg N q)->DS (ae pg "@Draft") X m lt N wo ra rs lp->LS (ae pg "@Line") X m n w ra i p ws->ws.drop p=qs.flatMap (·.2.2)++r->xs.length+qs.length<=20->n < X.length ->
  ∃ f4,bh ⟨TL,xs0⟩ (bc (gN 4) Sj (run pg (k+9))) (qs.map λq=> .str q.1) [TK (.ref m),TK (.ref n),wd,TK (.ref X.length),e4] (X++[.lst xs])= .ok (.nx [TK (.ref m),TK (.ref n),wd,TK (.ref X.length),f4]) (X.set n (bq (ae pg "@Line") i w (p+(qs.flatMap (·.2.2)).length))++[.lst (xs++qs.map (·.2.1))])
 | [],X,xs,p,r,e4,_,D,L,hd,l,hn=>⟨e4,by
   have:X.set n (bq (ae pg "@Line") i w p)=X:=by
    obtain⟨h1,h2⟩:=TR.mp L.e;rw[<- h2];exact List.set_getElem_self h1
   simp only[Vg,Vc,Nat.add_zero,UE,Ui,this];exact dS⟩
 | q::qs,X,xs,p,r,e4,H,D,L,hd,l,hn=>by
  rw[Uc] at l;rw[Uy,TZ] at hd;have r1:=H q Ug k (D.gr [.lst xs]) (L.gr [.lst xs]) hd;rw[oC hn] at r1;have hd2:ws.drop (p+q.2.2.length)=qs.flatMap (·.2.2)++r:=by rw[<- ZK,hd,aa9]
  have lx:(X.set n (bq (ae pg "@Line") i w (p+q.2.2.length))).length=X.length:=UA;obtain⟨f4,ih⟩:=wB k (wd:=wd) (xs0:=xs0) qs (X.set n (bq (ae pg "@Line") i w (p+q.2.2.length))) (xs++[q.2.1]) (p+q.2.2.length) r (TK (.str q.1)) (λz m=>H z (T7 _ m)) (D.set L.hn L.hr) (L.go _) hd2 (by rw[TX,UC];omega) (by rw[lx];exact hn);rw[lx,Za] at ih;have h0:(X++[PO.lst xs])[X.length]?=TK (.lst xs):=fT rfl;have h1:(X.set n (bq (ae pg "@Line") i w (p+q.2.2.length))++[PO.lst xs])[X.length]?=TK (.lst xs):=fT (by simp);have hz:xs.length < 16777216:=by omega
  have st:bc (gN 4) Sj (run pg (k+9)) (.str q.1) [TK (.ref m),TK (.ref n),wd,TK (.ref X.length),e4] (X++[.lst xs])= .ok (.nx [TK (.ref m),TK (.ref n),wd,TK (.ref X.length),TK (.str q.1)]) (X.set n (bq (ae pg "@Line") i w (p+q.2.2.length))++[.lst (xs++[q.2.1])]):=by
   have ap:au (.ref X.length) [q.2.1] (X.set n (bq (ae pg "@Line") i w (p+q.2.2.length))++[PO.lst xs])= .ok .non (X.set n (bq (ae pg "@Line") i w (p+q.2.2.length))++[PO.lst (xs++[q.2.1])]):=by
    rw[vA,h1,uh hz,Bt (by simp)]
   generalize X.set n (bq (ae pg "@Line") i w (p+q.2.2.length))++[PO.lst xs]=Y at r1 ap;generalize X++[PO.lst xs]=Y0 at r1 h0 ⊢;simp? [Sj,h0,r1,↓ap]
  refine⟨f4,?_⟩;rw[T9,bW,st,aF,aU];refine ih.trans ?_;rw[Uy,TX,<- Nat.add_assoc,TZ,T9];rfl
end
mutual
theorem CT(n:Nat): ∀ v:PV,v.flat=true->v.dH n=true
 | .tup xs,h=>by rw[PV.flat] at h;rw[PV.dH];exact gc n xs h
 | .ktup xs,h=>by rw[PV.flat] at h;rw[PV.dH];exact gc n xs h
 | .non,_=>rfl
 | .bl _,_=>rfl
 | .int _,_=>rfl
 | .str _,_=>rfl
 | .ty _,_=>rfl
 | .ref _,h=>nomatch h
theorem gc(n:Nat): ∀ xs:List PV,PV.aS xs=true->PV.eA n xs=true
 | [],_=>rfl
 | x::r,h=>by
  rw[PV.aS,Uw] at h;rw[PV.eA,CT n x h.1,gc n r h.2];rfl
end
theorem AQ: ∀{x y:List PV},PV.aS x=true->PV.aS y=true->PV.aS (x++y)=true
 | [],_,_,h=>h
 | a::r,y,h,h'=>by
  rw[PV.aS,Uw] at h;rw[Vf,PV.aS,h.1,AQ h.2 h'];rfl
theorem rw_und{n:Nat}(rs:List Rw):(PO.lst (rs.map bY)).dH n=true:=gc n _ (iY rs)
theorem rw_leap{r:Rw}:r.w= "leap" -> ∃ v e,r= .leap v e:=by
 cases r<;>first | exact λ_=>⟨_,_,rfl⟩ | (intro z;simp[Rw.w,aT] at z)
theorem Dt(r:Rw):1<=((dW r).flatMap (·.2.2)).length:=by
 cases r<;>simp[dW]<;>omega
section
variable{pg:Tb}(T:cx pg)
include T
theorem tP(k:Nat){N:Nat->List Str}{H:PH}{m n w a p:Nat}{lt:Str}{wo:List Int}{ra:List Nat}{rs:List (List Rw)}{r:List Rw}{lp:List PV}{i:Int}{ws:List Str}{x:Rw}(D:DS (ae pg "@Draft") H m lt N wo (ra++[a]) (rs++[r]) lp)(L:LS (ae pg "@Line") H m n w (ra++[a]) i p ws)(ok: ∀ q∈dW x,iK pg N q)(hd:ws.drop p=(dW x).flatMap (·.2.2))(lr:ra.length<=10)(l30:r.length<=30)(ll:lp.length<=1000)(lf:PV.aS lp=true) :
  run pg (k+10) "read_row" [.ref m,.ref n,.str x.w] H= .ok .non (if x.w= "leap" then((H.set n (bq (ae pg "@Line") i w ws.length)).set a (.lst ((r++[x]).map bY))).set (m+9) (.lst (lp++[.tup [.int i,x.ps.headD .non,.int ra.length]])) else(H.set n (bq (ae pg "@Line") i w ws.length)).set a (.lst ((r++[x]).map bY))):=by
 have hn:=(TR.mp L.e).1;have hw:=(TR.mp L.ew).1;have lq:(dW x).length<=2:=by cases x<;>simp[dW]
 obtain⟨f4,lp1⟩:=wB T k (wd:=TK (.str x.w)) (xs0:=(dW x).map λq=> .str q.1) (dW x) H [.str x.w] p [] TL ok D L (by rw[hd,Ui]) (by simp;omega) hn;have pl:p+((dW x).flatMap (·.2.2)).length=ws.length:=by
  have:=congrArg Xz hd;rw[VO] at this;have:=Dt x;omega
 rw[pl,show[PV.str x.w]++(dW x).map (·.2.1)= .str x.w::x.ps by rw[vX];rfl] at lp1
 have kg:=B5 x;have DY:=(D.set (x:=bq (ae pg "@Line") i w ws.length) L.hn L.hr).gr [PO.lst (.str x.w::x.ps)];have ga:(ra++[a]).getLast?=TK a:=by simp
 have f1:=jA T DY (k:=k+8);have i1:=wN T DY ga;have lrs:ra.length=rs.length:=by have:=D.rl;simp at this;exact this
 have ea:=DY.rr ra.length a r (by simp) (by rw[lrs];simp);have ea0:=D.rr ra.length a r (by simp) (by rw[lrs];simp);have ha:=(TR.mp ea0).1;have na:a≠n:=λz=>L.hr (by rw[<- z];simp);have hz:(r.map bY).length < 16777216:=by rw[TV];omega
 have et:(H.set n (bq (ae pg "@Line") i w ws.length)++[PO.lst (.str x.w::x.ps)])[H.length]?=TK (.lst (.str x.w::x.ps)):=fT (by simp);have ap:au (.ref a) [bY x] (H.set n (bq (ae pg "@Line") i w ws.length)++[PO.lst (.str x.w::x.ps)])= .ok .non ((H.set n (bq (ae pg "@Line") i w ws.length)).set a (.lst ((r++[x]).map bY))++[PO.lst (.str x.w::x.ps)]):=by
  rw[vA,ea,uh hz,oC (by rw[UA];exact ha),US];rfl
 rw[run_eq T.vF rfl];have A1:gR (run pg (k+9)) [TK (.ref m),TK (.ref n),TK (.str x.w),TL,TL] H=cX (mQ (aa 2) (eS "leap")) (aC (eM au aJ (bO "@Draft" "leaps" (aa 0)) (ab (bA (ab (bO "@Line" "row" (aa 1)) (ab (eX 3 1) (ab (aq sQ (eB cN (ab (bO "@Draft" "rows" (aa 0)) af)) (eI 1)) af)))) af))) c8 (run pg (k+9)) [TK (.ref m),TK (.ref n),TK (.str x.w),TK (.ref H.length),f4] ((H.set n (bq (ae pg "@Line") i w ws.length)).set a (.lst ((r++[x]).map bY))++[PO.lst (.str x.w::x.ps)]):=by
  unfold gR;refine(aD (e1:=[TK (.ref m),TK (.ref n),TK (.str x.w),TK (.ref H.length),TL]) (h1:=H++[.lst [.str x.w]]) ?_).trans ?_
  . simp? [UE]
  refine(aD (e1:=[TK (.ref m),TK (.ref n),TK (.str x.w),TK (.ref H.length),f4]) (h1:=H.set n (bq (ae pg "@Line") i w ws.length)++[PO.lst (.str x.w::x.ps)]) ?_).trans ?_
  . have it:ef (nR ba (aa 2)) (run pg (k+9)) [TK (.ref m),TK (.ref n),TK (.str x.w),TK (.ref H.length),TL] (H++[.lst [.str x.w]])= .ok ⟨TL,(dW x).map λq=> .str q.1⟩ (H++[.lst [.str x.w]]):=by
     simp? [kg]
    rw[ee,it,aF,c7];exact lp1
  refine(aD (e1:=[TK (.ref m),TK (.ref n),TK (.str x.w),TK (.ref H.length),f4]) (h1:=(H.set n (bq (ae pg "@Line") i w ws.length)).set a (.lst ((r++[x]).map bY))++[PO.lst (.str x.w::x.ps)]) ?_).trans ?_
  . have ap':au (.ref a) [.tup (.str x.w::x.ps)] (H.set n (bq (ae pg "@Line") i w ws.length)++[PO.lst (.str x.w::x.ps)])= .ok .non ((H.set n (bq (ae pg "@Line") i w ws.length)).set a (.lst ((r++[x]).map bY))++[PO.lst (.str x.w::x.ps)]):=ap;have ng: ∀ g,CS (.int 1) g= .ok (.int (-1)) g:=λg=>rfl;generalize H.set n (bq (ae pg "@Line") i w ws.length)++[PO.lst (.str x.w::x.ps)]=Y at f1 i1 ea et ap' ⊢;simp? [f1,ng,i1,ea,et,↓ap']
  . rfl
 show fin H (gR (run pg (k+9)) [TK (.ref m),TK (.ref n),TK (.str x.w),TL,TL] H)=_;rw[A1];have u1:(bq (ae pg "@Line") i w ws.length).dH H.length=true:=rT hw;have u2:(PO.lst ((r++[x]).map bY)).dH H.length=true:=rw_und _;by_cases c:x.w= "leap"
 . obtain⟨v,e,rfl⟩:=rw_leap c;rw[if_pos c];have e9:=D.le;have DZ:=((D.set (x:=bq (ae pg "@Line") i w ws.length) L.hn L.hr).A6 (.leap v e)).gr [PO.lst (.str (Rw.leap v e).w::(Rw.leap v e).ps)];have LZ:=L.go ws.length;have f2:=xi T DZ (k:=k+8);have f3:=jA T DZ (k:=k+8);have eZ:((H.set n (bq (ae pg "@Line") i w ws.length)).set a (.lst ((r++[Rw.leap v e]).map bY))++[PO.lst (.str (Rw.leap v e).w::(Rw.leap v e).ps)])[n]?=TK (bq (ae pg "@Line") i w ws.length):=cJ (by rw[Um na];exact LZ.e);have f4':=Qg T eZ (k:=k+8);have ex:((H.set n (bq (ae pg "@Line") i w ws.length)).set a (.lst ((r++[Rw.leap v e]).map bY))++[PO.lst (.str (Rw.leap v e).w::(Rw.leap v e).ps)])[H.length]?=TK (.lst [.str "leap",.int v,cz e]):=fT (by simp);have lZ:((H.set n (bq (ae pg "@Line") i w ws.length)).set a (.lst ((r++[Rw.leap v e]).map bY))).length=H.length:=by simp
   have hl:lp.length < 16777216:=by omega
   have l9:=(TR.mp D.le).1;have sb:((ra.length+(0+1):Nat):Int) - 1=(ra.length:Int):=by omega
   have ro:=DZ.ro;have le:=DZ.le;have fl:PV.aS (lp++[.tup [.int i,.int v,.int ra.length]])=true:=AQ lf rfl;have ap9:au (.ref (m+9)) [.tup [.int i,.int v,.int ra.length]] ((H.set n (bq (ae pg "@Line") i w ws.length)).set a (.lst ((r++[Rw.leap v e]).map bY))++[PO.lst (.str (Rw.leap v e).w::(Rw.leap v e).ps)])= .ok .non (((H.set n (bq (ae pg "@Line") i w ws.length)).set a (.lst ((r++[Rw.leap v e]).map bY))).set (m+9) (.lst (lp++[.tup [.int i,.int v,.int ra.length]]))++[PO.lst (.str (Rw.leap v e).w::(Rw.leap v e).ps)]):=by
    rw[vA,le,uh hl,oC (by rw[lZ];exact l9)]
   have st:P3.settle H .non (((H.set n (bq (ae pg "@Line") i w ws.length)).set a (.lst ((r++[Rw.leap v e]).map bY))).set (m+9) (.lst (lp++[.tup [.int i,.int v,.int ra.length]]))++[PO.lst (.str (Rw.leap v e).w::(Rw.leap v e).ps)])= .ok .non (((H.set n (bq (ae pg "@Line") i w ws.length)).set a (.lst ((r++[Rw.leap v e]).map bY))).set (m+9) (.lst (lp++[.tup [.int i,.int v,.int ra.length]]))):=so rfl L.e rfl u1 ea0 rfl u2 e9 rfl (gc _ _ fl);have hw0:(Rw.leap v e).w= "leap" :=rfl;have hps:(Rw.leap v e).ps.headD .non= .int v:=rfl;rw[hps];generalize ((H.set n (bq (ae pg "@Line") i w ws.length)).set a (.lst ((r++[Rw.leap v e]).map bY))).set (m+9) (.lst (lp++[.tup [.int i,.int v,.int ra.length]]))=U at ap9 st ⊢;generalize (H.set n (bq (ae pg "@Line") i w ws.length)).set a (.lst ((r++[Rw.leap v e]).map bY))++[PO.lst (.str (Rw.leap v e).w::(Rw.leap v e).ps)]=Y at f2 f3 f4' ex ro le ap9 ⊢;have at1:gA [PV.str "leap",.int v,cz e] 1=TK (.int v):=rfl;rw[hw0];simp? [at1,f2,f3,f4',ex,ro,le,TV,sb,↓ap9,st]
 . rw[if_neg c];simp? [c];exact vB rfl L.e rfl u1 ea0 rfl u2
end
theorem DS.worth{A:Nat}{H:PH}{m:Nat}{lt:Str}{N:Nat->List Str}{wo:List Int}{ra:List Nat}{rs:List (List Rw)}{lp:List PV}(D:DS A H m lt N wo ra rs lp)(v:Int):DS A (H.set (m+7) (.lst (wo.map PV.int++[.int v]))) m lt N (wo++[v]) ra rs lp:=by
 have ot: ∀ i o,i≠m+7->H[i]?=TK o->(H.set (m+7) (PO.lst (wo.map PV.int++[.int v])))[i]?=TK o:=λi o h1 e=>by rw[Um (VI h1)];exact e
 exact⟨ot _ _ (by omega) D.o,λk hk=>ot _ _ (by omega) (D.nm k hk),ot _ _ (by omega) D.d,(Us (TR.mp D.w7).1).trans (by simp),ot _ _ (by omega) D.ro,ot _ _ (by omega) D.le,D.rl,λk a r e1 e2=>ot _ _ (by have:=D.ri a (UW e1);omega) (D.rr k a r e1 e2),D.ri,D.nd⟩
theorem LS.low{A:Nat}{H:PH}{m n w:Nat}{ra:List Nat}{i:Int}{p:Nat}{ws:List Str}(L:LS A H m n w ra i p ws){j:Nat}{x:PO}(h1:j≠n)(h2:j≠w):LS A (H.set j x) m n w ra i p ws :=
 ⟨by rw[Um h1];exact L.e,by rw[Um h2];exact L.ew,L.hn,L.hr⟩
theorem gS{lt:Str}{m:Nat}:(xg lt m).lookup ("has_name" :Str)=TL/\(xg lt m).lookup ("tell" :Str)=TL/\(xg lt m).lookup ("may_tell" :Str)=TL/\(xg lt m).lookup ("may_have_row" :Str)=TL/\(xg lt m).lookup ("finished" :Str)=TL :=
 ⟨eY (eY (eY (eY (eY rfl)))),eY (eY (eY (eY (eY rfl)))),eY (eY (eY (eY (eY rfl)))),eY (eY (eY (eY (eY rfl)))),eY (eY (eY (eY (eY rfl))))⟩
structure Rd(H H':PH)(m:Nat):Prop where
 low: ∀ i,i < m->H'[i]?=H[i]?
 len:H.length<=H'.length
theorem Rd.set{H H':PH}{m j:Nat}{x:PO}(q:Rd H H' m)(h:m<=j):Rd H (H'.set j x) m:=⟨λi hi=>by rw[Um (by omega)];exact q.low i hi,by rw[UA];exact q.len⟩
theorem Rd.one{H:PH}{m j:Nat}{x:PO}(h:m<=j):Rd H (H.set j x) m:=Rd.set ⟨λ_ _=>rfl,T6 _⟩ h
section
variable{pg:Tb}(T:cx pg)
include T
theorem pJ(k:Nat){N:Nat->List Str}{H:PH}{m n w:Nat}{lt:Str}{wo:List Int}{ra:List Nat}{rs:List (List Rw)}{lp:List PV}{i:Int}{x s0:Str}{j:Nat}(D:DS (ae pg "@Draft") H m lt N wo ra rs lp)(L:LS (ae pg "@Line") H m n w ra i 1 [s0,x])(hw:m+10<=w)(hj0:0 < j)(hj:j < 4)(ox:aL x)(no: ∀ j,j < 5->x ∉ N j)(iT:(N j).length<=10) :
  ∃ H',run pg (k+10) "read_thing" [.ref m,.ref n,.str (fz j)] H= .ok .non H'/\DS (ae pg "@Draft") H' m (fz j) (mn N j x) wo ra rs lp/\LS (ae pg "@Line") H' m n w ra i 2 [s0,x]/\Rd H H' m/\H'.length=H.length:=by
 have lx:x.length<=1000:=by have:=ox.2.1;omega
 have hn:=L.hn;have c1:=cK T L.e L.ew (x:=x) rfl (k:=k+7);have m1:=λE=>dq T L.e (k:=k+8) (g:= "Line.coming") (E:=E) (ma:=af);have m2:=λE ma=>cP T L.e (k:=k+8) (g:= "Line.go_over") (E:=E) (ma:=ma);have g1:=b9 T L.e (k:=k+7);have n1:=eP T (k+7) (h:=H) lx;rw[ox.2.2.1] at n1;have m3:=λE ma=>kb T D (k:=k+8) (g:= "Draft.has_name") (E:=E) (ma:=ma) gS.1;have h1:=ig T D (k:=k+7) no;have D1:=D.set (x:=bq (ae pg "@Line") i w 2) L.hn L.hr;have L1:=L.go 2;have m4:=λE ma=>kb T D1 (k:=k+8) (g:= "Draft.tell") (E:=E) (ma:=ma) gS.2.1;have t1:=wm T D1 (k:=k+7) hj (x:=x) iT;have nb: ∀ j,j < 5->0 < j-> ¬ fz j= "box" :=by decide +kernel
 have nb':=nb j (by omega) hj0;refine⟨((H.set n (bq (ae pg "@Line") i w 2)).set m (gz (ae pg "@Draft") (fz j) m)).set (m+2+j) (.lst ((N j++[x]).map PV.str)),?_,D1.tell (by omega) x,(L1.low (by omega) (by omega)).low (by omega) (by omega),((Rd.one (by omega)).set (by omega)).set (by omega),by simp⟩;rw[run_eq T.gQ rfl];generalize hU:((H.set n (bq (ae pg "@Line") i w 2)).set m (gz (ae pg "@Draft") (fz j) m)).set (m+2+j) (.lst ((N j++[x]).map PV.str))=U at t1 ⊢;simp? [cL,eK,m1,c1,n1,m2,m3,h1,g1,m4,t1,nb'];exact bC (by rw[<- hU];simp)
theorem sx(k:Nat){N:Nat->List Str}{H:PH}{m n w:Nat}{lt:Str}{wo:List Int}{ra:List Nat}{rs:List (List Rw)}{lp:List PV}{i:Int}{x s0:Str}(D:DS (ae pg "@Draft") H m lt N wo ra rs lp)(L:LS (ae pg "@Line") H m n w ra i 1 [s0,x])(hw:m+10<=w)(ox:aL x)(no: ∀ j,j < 5->x ∉ N j)(iT:(N 4).length<=10)(fr:ra.length<=10) :
  ∃ H',run pg (k+10) "read_thing" [.ref m,.ref n,.str "hand"] H= .ok .non H'/\DS (ae pg "@Draft") H' m "hand" (mn N 4 x) wo (ra++[H.length]) (rs++[[]]) lp/\LS (ae pg "@Line") H' m n w (ra++[H.length]) i 2 [s0,x]/\Rd H H' m:=by
 have lx:x.length<=1000:=by have:=ox.2.1;omega
 have hn:=L.hn;have c1:=cK T L.e L.ew (x:=x) rfl (k:=k+7);have m1:=λE=>dq T L.e (k:=k+8) (g:= "Line.coming") (E:=E) (ma:=af);have m2:=λE ma=>cP T L.e (k:=k+8) (g:= "Line.go_over") (E:=E) (ma:=ma);have g1:=b9 T L.e (k:=k+7);have n1:=eP T (k+7) (h:=H) lx;rw[ox.2.2.1] at n1;have m3:=λE ma=>kb T D (k:=k+8) (g:= "Draft.has_name") (E:=E) (ma:=ma) gS.1;have h1:=ig T D (k:=k+7) no;have D1:=D.set (x:=bq (ae pg "@Line") i w 2) L.hn L.hr;have L1:=L.go 2;have m4:=λE ma=>kb T D1 (k:=k+8) (g:= "Draft.tell") (E:=E) (ma:=ma) gS.2.1;have t1:=Be T D1 (k:=k+7) (x:=x) iT fr;have D2:DS (ae pg "@Draft") (((H.set n (bq (ae pg "@Line") i w 2)).set m (gz (ae pg "@Draft") "hand" m)).set (m+6) (.lst ((N 4++[x]).map PV.str))) m "hand" (mn N 4 x) wo ra rs lp:=D1.tell (j:=4) (by omega) x;have D3:=D2.hand;have hl:(((H.set n (bq (ae pg "@Line") i w 2)).set m (gz (ae pg "@Draft") "hand" m)).set (m+6) (.lst ((N 4++[x]).map PV.str))).length=H.length:=by simp
 have hl2:(H.set n (bq (ae pg "@Line") i w 2)).length=H.length:=by simp
 rw[hl] at D3;rw[hl2] at t1;have e8:=D.ro;have l8:=(TR.mp D.ro).1;have L2:LS (ae pg "@Line") (((H.set n (bq (ae pg "@Line") i w 2)).set m (gz (ae pg "@Draft") "hand" m)).set (m+6) (.lst ((N 4++[x]).map PV.str))) m n w ra i 2 [s0,x]:=(L1.low (by omega) (by omega)).low (by omega) (by omega);have L3:=(L2.gr [PO.lst []]).low (j:=m+8) (x:=PO.lst ((ra++[H.length]).map PV.ref)) (by omega) (by omega);have hnl:=(TR.mp L.e).1;have st:P3.settle H .non ((((H.set n (bq (ae pg "@Line") i w 2)).set m (gz (ae pg "@Draft") "hand" m)).set (m+6) (.lst ((N 4++[x]).map PV.str))++[PO.lst []]).set (m+8) (PO.lst ((ra++[H.length]).map PV.ref)))= .ok .non ((((H.set n (bq (ae pg "@Line") i w 2)).set m (gz (ae pg "@Draft") "hand" m)).set (m+6) (.lst ((N 4++[x]).map PV.str))++[PO.lst []]).set (m+8) (PO.lst ((ra++[H.length]).map PV.ref))) :=
  eU e8 (Us (by rw[TX,hl];omega)) (λz=>by injection z with z;have:=congrArg Xz z;simp at this) (by rw[US];exact jK (n:=H.length) _)
 refine⟨_,?_,D3,⟨L3.e,L3.ew,L3.hn,λz=>?_⟩,?_⟩
 . rw[run_eq T.gQ rfl];generalize (((H.set n (bq (ae pg "@Line") i w 2)).set m (gz (ae pg "@Draft") "hand" m)).set (m+6) (.lst ((N 4++[x]).map PV.str))++[PO.lst []]).set (m+8) (PO.lst ((ra++[H.length]).map PV.ref))=U at t1 st ⊢;simp? [cL,eK,m1,c1,n1,m2,m3,h1,g1,m4,t1];exact st
 . rcases Uz.mp z with z | z
   . exact L.hr z
   . rw[UD.mp z] at hnl;omega
 . have r1:Rd H (((H.set n (bq (ae pg "@Line") i w 2)).set m (gz (ae pg "@Draft") "hand" m)).set (m+6) (.lst ((N 4++[x]).map PV.str))) m:=((Rd.one (by omega)).set (by omega)).set (by omega);refine Rd.set (H':=_++[PO.lst []]) ⟨λi hi=>?_,by rw[TX];have:=r1.len;omega⟩ (by omega);rw[Uq (by rw[hl];omega)];exact r1.low i hi
theorem uA(k:Nat){N:Nat->List Str}{H:PH}{m n w:Nat}{lt:Str}{wo:List Int}{ra:List Nat}{rs:List (List Rw)}{lp:List PV}{i v:Int}{x s0:Str}(D:DS (ae pg "@Draft") H m lt N wo ra rs lp)(L:LS (ae pg "@Line") H m n w ra i 1 [s0,x,aN v])(hw:m+10<=w)(ox:aL x)(no: ∀ j,j < 5->x ∉ N j)(iT:(N 0).length<=10)(wf:wo.length<=10)(v0:0<=v)(v9:v<=999) :
  ∃ H',run pg (k+10) "read_thing" [.ref m,.ref n,.str "box"] H= .ok .non H'/\DS (ae pg "@Draft") H' m "box" (mn N 0 x) (wo++[v]) ra rs lp/\LS (ae pg "@Line") H' m n w ra i 3 [s0,x,aN v]/\Rd H H' m/\H'.length=H.length:=by
 have lx:x.length<=1000:=by have:=ox.2.1;omega
 have hn:=L.hn;have c1:=cK T L.e L.ew (x:=x) rfl (k:=k+7);have m1:=λE=>dq T L.e (k:=k+8) (g:= "Line.coming") (E:=E) (ma:=af);have m2:=λE ma=>cP T L.e (k:=k+8) (g:= "Line.go_over") (E:=E) (ma:=ma);have g1:=b9 T L.e (k:=k+7);have n1:=eP T (k+7) (h:=H) lx;rw[ox.2.2.1] at n1;have m3:=λE ma=>kb T D (k:=k+8) (g:= "Draft.has_name") (E:=E) (ma:=ma) gS.1;have h1:=ig T D (k:=k+7) no;have D1:=D.set (x:=bq (ae pg "@Line") i w 2) L.hn L.hr;have L1:=L.go 2;have m4:=λE ma=>kb T D1 (k:=k+8) (g:= "Draft.tell") (E:=E) (ma:=ma) gS.2.1;have t1:run pg (k+9) "Draft.tell" [.ref m,.str "box",.str x] (H.set n (bq (ae pg "@Line") i w 2))= .ok .non (((H.set n (bq (ae pg "@Line") i w 2)).set m (gz (ae pg "@Draft") "box" m)).set (m+2) (.lst ((N 0++[x]).map PV.str))):=wm T D1 (k:=k+7) (j:=0) (by decide) (x:=x) iT;have D2:DS (ae pg "@Draft") (((H.set n (bq (ae pg "@Line") i w 2)).set m (gz (ae pg "@Draft") "box" m)).set (m+2) (.lst ((N 0++[x]).map PV.str))) m "box" (mn N 0 x) wo ra rs lp:=D1.tell (j:=0) (by omega) x;have L2:LS (ae pg "@Line") (((H.set n (bq (ae pg "@Line") i w 2)).set m (gz (ae pg "@Draft") "box" m)).set (m+2) (.lst ((N 0++[x]).map PV.str))) m n w ra i 2 [s0,x,aN v]:=(L1.low (by omega) (by omega)).low (by omega) (by omega);have r1:Rd H (((H.set n (bq (ae pg "@Line") i w 2)).set m (gz (ae pg "@Draft") "box" m)).set (m+2) (.lst ((N 0++[x]).map PV.str))) m:=((Rd.one (by omega)).set (by omega)).set (by omega);have hl:(((H.set n (bq (ae pg "@Line") i w 2)).set m (gz (ae pg "@Draft") "box" m)).set (m+2) (.lst ((N 0++[x]).map PV.str))).length=H.length:=by simp
 rw[run_eq T.gQ rfl];generalize ((H.set n (bq (ae pg "@Line") i w 2)).set m (gz (ae pg "@Draft") "box" m)).set (m+2) (.lst ((N 0++[x]).map PV.str))=U at t1 D2 L2 r1 hl;have f1:=uE T D2 (k:=k+8);have u1:=D2.w7;have q1:=fm T (k+6) (lo:=0) (hi:=999) L2.e L2.ew (v:=v) rfl v0 v0 v9 (.inr (.inl rfl));have D3:=D2.set (x:=bq (ae pg "@Line") i w 3) L2.hn L2.hr;have L3:=L2.go 3;have u2:=D3.w7;have hz:(wo.map PV.int).length < 16777216:=by rw[TV];omega
 refine⟨_,?_,D3.worth v,L3.low (by omega) (by omega),(r1.set (by omega)).set (by omega),by rw[UA,UA,hl]⟩;generalize wo.map PV.int=Y at u1 u2 hz ⊢;generalize hV:U.set n (bq (ae pg "@Line") i w 3)=V at q1 u2 ⊢;simp? [cL,eK,m1,c1,n1,m2,m3,h1,g1,m4,t1,f1,u1,q1,u2];exact bC (by rw[UA,<- hV,UA,hl])
end
inductive Ln where
 | box (x:Str) (v:Int) | thing (j:Nat) (x:Str) | hand (x:Str) | row (r:Rw)
def Ln.w:Ln->List Str
 | .box x v=>["box",x,aN v]
 | .thing j x=>[fz j,x]
 | .hand x=>["hand",x]
 | .row r=>dU r
structure Sd where
 l:Nat
 N:Nat->List Str
 wo:List Int
 rs:List (List Rw)
 lp:List (Int × Int × Nat)
noncomputable def C6(q:Int × Int × Nat):PV:= .tup [.int q.1,.int q.2.1,.int q.2.2]
noncomputable def eT(i:Int)(h:Nat):Rw->List (Int × Int × Nat)
 | .leap v _=>[(i,v,h)]
 | _=>[]
def Sd.next(s:Sd)(i:Int):Ln->Sd
 | .box x v=>{ s with l:=0,N:=mn s.N 0 x,wo:=s.wo++[v]}
 | .thing j x=>{ s with l:=j,N:=mn s.N j x}
 | .hand x=>{ s with l:=4,N:=mn s.N 4 x,rs:=s.rs++[[]]}
 | .row r=>{ s with rs:=s.rs.dropLast++[s.rs.getLastD []++[r]],lp:=s.lp++eT i (s.rs.length - 1) r}
def Sd.new(s:Sd)(x:Str):Prop:=aL x/\ ∀ j,j < 5->x ∉ s.N j
def Sd.fits(pg:Tb)(s:Sd):Ln->Prop
 | .box x v=>s.l=0/\s.new x/\(s.N 0).length < 4/\s.wo.length<=4/\0<=v/\v<=999
 | .thing j x=>0 < j/\j < 4/\s.l<=j/\s.new x/\(s.N j).length < 4
 | .hand x=>s.l<=4/\s.new x/\(s.N 4).length < 4/\s.rs.length<=4
 | .row r=>s.rs≠[]/\s.rs.length<=4/\(s.rs.getLastD []).length < 30/\(∀ q∈dW r,iK pg s.N q)/\s.lp.length<=200
theorem DA(lp:List (Int × Int × Nat)):PV.aS (lp.map C6)=true:=by
 induction lp with
 | nil=>rfl
 | cons q r ih=>rw[T9,PV.aS,ih];rfl
theorem JU: ∀ r:Rw,r.w ∉ W5:=λr=>by
 have z: ∀ s∈vd,s ∉ W5:=by decide +kernel
 have:r.w∈vd:=by cases r<;>(simp only[Rw.w];decide +kernel)
 exact z _ this
theorem PN: ∀ j,j < 5->fz j∈W5:=by decide +kernel
abbrev vk(A:Nat)(H:PH)(m:Nat)(ra:List Nat)(s:Sd):Prop:=DS A H m (fz s.l) s.N s.wo ra s.rs (s.lp.map C6)
theorem uv{α :Type}{xs:List α}(ne:xs≠[])(d: α):xs=xs.dropLast++[xs.getLastD d]:=by
 rw[List.getLastD_eq_getLast?,List.getLast?_eq_some_getLast ne];exact(List.dropLast_concat_getLast ne).symm
section
variable{pg:Tb}(T:cx pg)
include T
theorem jq(k:Nat){s:Sd}{H:PH}{m n w:Nat}{ra:List Nat}{i:Int}{j:Nat}{ws:List Str}{x:Str}{s':Sd}{rs':List Nat}(D:vk (ae pg "@Draft") H m ra s)(L:LS (ae pg "@Line") H m n w ra i 0 ws)(h0:ws[0]?=TK (fz j))(hj:j < 5)(hl:s.l<=j)(iT:(s.N j).length < 4)
  (q: ∀ H1,vk (ae pg "@Draft") H1 m ra s->LS (ae pg "@Line") H1 m n w ra i 1 ws-> ∃ H' ra',run pg (k+10) "read_thing" [.ref m,.ref n,.str (fz j)] H1= .ok .non H'/\vk (ae pg "@Draft") H' m ra' s'/\LS (ae pg "@Line") H' m n w ra' i ws.length ws/\Rd H1 H' m/\ ∀ h,h.length=H1.length->h[m+8]?=H1[m+8]?->P3.settle h .non H'= .ok .non H') :
  ∃ H' ra',run pg (k+11) "read_line" [.ref m,.ref n] H= .ok .non H'/\vk (ae pg "@Draft") H' m ra' s'/\Rd H H' m:=by
 have c1:=cK T L.e L.ew (x:=fz j) h0 (k:=k+8);have m1:=λE=>dq T L.e (k:=k+9) (g:= "Line.coming") (E:=E) (ma:=af);have m2:=λE ma=>cP T L.e (k:=k+9) (g:= "Line.go_over") (E:=E) (ma:=ma);have g1:=b9 T L.e (k:=k+8);have m3:=λE ma=>kb T D (k:=k+9) (g:= "Draft.may_tell") (E:=E) (ma:=ma) gS.2.2.1;have t1:=uK T D (k:=k+8) hj (by omega) rfl hl iT;have e1: ∀ h,hI (.str (fz j)) (.ktup [.str "box",.str "lock",.str "lane",.str "door",.str "hand"]) h= .ok (.bl true) h:=λh=>(in_K (ss:=W5)).trans (by rw[decide_eq_true (PN j hj)]);have D1:=D.set (x:=bq (ae pg "@Line") i w 1) L.hn L.hr;have r1:Rd H (H.set n (bq (ae pg "@Line") i w 1)) m:=Rd.one (by have:=L.hn;omega);obtain⟨H',ra',a1,a2,a3,a4,a5⟩:=q _ D1 (L.go 1);have m4:=λE=>wG T a3.e (k:=k+9) (g:= "Line.close") (E:=E) (ma:=af);have c4:=tY T a3.e a3.ew (T6 _) (k:=k+8);refine⟨H',ra',?_,a2,λi hi=>(a4.low i hi).trans (r1.low i hi),UQ r1.len a4.len⟩;have st:=a5 H UA.symm (Um (by have:=L.hn;omega)).symm;rw[run_eq T.lJ rfl];generalize H.set n (bq (ae pg "@Line") i w 1)=U at g1 a1;simp? [dQ,iO,m1,c1,e1,m2,m3,t1,g1,a1,m4,c4,st]
theorem Ca(k:Nat){s:Sd}{H:PH}{m n w:Nat}{ra:List Nat}{i:Int}{r:Rw}(D:vk (ae pg "@Draft") H m ra s)(L:LS (ae pg "@Line") H m n w ra i 0 (dU r))(hw:m+10<=w)(wr:w ∉ ra)(ne:s.rs≠[])(l4:s.rs.length<=4)(iT:(s.rs.getLastD []).length < 30)(ok: ∀ q∈dW r,iK pg s.N q)(ll:s.lp.length<=200) :
  ∃ H',run pg (k+11) "read_line" [.ref m,.ref n] H= .ok .non H'/\vk (ae pg "@Draft") H' m ra (s.next i (.row r))/\Rd H H' m:=by
 have ne2:ra≠[]:=λz=>ne (YL.mp (by rw[<- D.rl,z];rfl));have c1:=cK T L.e L.ew (x:=r.w) (by rw[uJ];rfl) (k:=k+8);have m1:=λE=>dq T L.e (k:=k+9) (g:= "Line.coming") (E:=E) (ma:=af);have m2:=λE ma=>cP T L.e (k:=k+9) (g:= "Line.go_over") (E:=E) (ma:=ma);have g1:=b9 T L.e (k:=k+8);have m3:=λE ma=>kb T D (k:=k+9) (g:= "Draft.may_have_row") (E:=E) (ma:=ma) gS.2.2.2.1;have er:=uv ne [];have ea:=uv ne2 0;generalize hR:s.rs.dropLast=R at er;generalize hl:s.rs.getLastD []=l at er iT;generalize hA:ra.dropLast=A at ea;generalize ha:ra.getLastD 0=a at ea;have t1:=vV T D (k:=k+8) (a:=a) (r:=l) (by rw[ea];simp) (by rw[er];simp) iT;have e1: ∀ h,hI (.str r.w) (.ktup [.str "box",.str "lock",.str "lane",.str "door",.str "hand"]) h= .ok (.bl false) h:=λh=>(in_K (ss:=W5)).trans (by rw[decide_eq_false (JU r)]);have kg:=B5 r;have D1:DS (ae pg "@Draft") (H.set n (bq (ae pg "@Line") i w 1)) m (fz s.l) s.N s.wo (A++[a]) (R++[l]) (s.lp.map C6):=by rw[<- ea,<- er];exact D.set L.hn L.hr
 have L1:=L.go 1;rw[ea] at L1;have lA:A.length<=10:=by have:=D.rl;rw[ea] at this;simp at this;omega
 have q1:=tP T k D1 L1 ok (by rw[uJ];rfl) lA (by omega) (by rw[TV];omega) (DA _);have hn:=L.hn;have ra1:a∈ra:=by rw[ea];simp
 have an:a≠n:=λz=>L.hr (z ▸ ra1);have aw:a≠w:=λz=>wr (z ▸ ra1);have am:=D.ri a ra1;have D2:=(D1.set (x:=bq (ae pg "@Line") i w (dU r).length) L1.hn L1.hr).A6 r;have L2:=(L1.go (dU r).length).low (j:=a) (x:= .lst ((l++[r]).map bY)) an aw;have r2:Rd H (((H.set n (bq (ae pg "@Line") i w 1)).set n (bq (ae pg "@Line") i w (dU r).length)).set a (.lst ((l++[r]).map bY))) m:=((Rd.one (by omega)).set (by omega)).set (by omega);have nx:s.next i (.row r)={ s with rs:=R++[l++[r]],lp:=s.lp++eT i (s.rs.length - 1) r}:=by rw[Sd.next,hR,hl]
 have ls:s.rs.length - 1=A.length:=by have:=D.rl;rw[ea] at this;simp at this;omega
 have lZ:(((H.set n (bq (ae pg "@Line") i w 1)).set n (bq (ae pg "@Line") i w (dU r).length)).set a (.lst ((l++[r]).map bY))).length=H.length:=by simp
 obtain⟨H',q1',D3,L3,r3,l3⟩: ∃ H',run pg (k+10) "read_row" [.ref m,.ref n,.str r.w] (H.set n (bq (ae pg "@Line") i w 1))= .ok .non H'/\vk (ae pg "@Draft") H' m ra (s.next i (.row r))/\LS (ae pg "@Line") H' m n w (A++[a]) i (dU r).length (dU r)/\Rd H H' m/\H'.length=H.length:=by
  refine⟨_,q1,?_⟩;by_cases c:r.w= "leap"
  . obtain⟨v,e,rfl⟩:=rw_leap c;rw[if_pos c];refine⟨?_,L2.low (by omega) (by omega),r2.set (by omega),by rw[UA,lZ]⟩;have D4:=D2.GB (.tup [.int i,(Rw.leap v e).ps.headD .non,.int A.length]);rw[nx,ea,ls];have z:(s.lp++eT i A.length (.leap v e)).map C6=s.lp.map C6++[.tup [.int i,(Rw.leap v e).ps.headD .non,.int A.length]]:=by rw[US];rfl
    rw[<- z] at D4;rw[<- z];exact D4
  . rw[if_neg c];refine⟨?_,L2,r2,lZ⟩;have:eT i (s.rs.length - 1) r=[]:=by cases r<;>first | rfl | exact absurd rfl c
    rw[nx,ea,this,Ui];exact D2
 have m4:=λE=>wG T L3.e (k:=k+9) (g:= "Line.close") (E:=E) (ma:=af);have c4:=tY T L3.e L3.ew (T6 _) (k:=k+8);refine⟨H',?_,D3,r3⟩;have st:P3.settle H .non H'= .ok .non H':=bC l3;rw[run_eq T.lJ rfl];generalize H.set n (bq (ae pg "@Line") i w 1)=U at g1 q1';simp? [dQ,iO,m1,c1,e1,m2,kg,Wy,m3,t1,g1,q1',m4,c4,st]
theorem rG(k:Nat){s:Sd}{H:PH}{m n w:Nat}{ra:List Nat}{i:Int}{l:Ln}(D:vk (ae pg "@Draft") H m ra s)(L:LS (ae pg "@Line") H m n w ra i 0 l.w)(hw:m+10<=w)(wr:w ∉ ra)(ft:s.fits pg l) :
  ∃ H' ra',run pg (k+11) "read_line" [.ref m,.ref n] H= .ok .non H'/\vk (ae pg "@Draft") H' m ra' (s.next i l)/\Rd H H' m:=by
 cases l with
 | box x v =>
  obtain⟨h1,h2,h3,h4,h5,h6⟩:=ft
  refine jq T k (j:=0) (x:=x) (rs':=[]) D L rfl (by decide) (by omega) h3 λH1 D1 L1=>?_
  obtain⟨H',a1,a2,a3,a4,a5⟩:=uA T k D1 L1 hw h2.1 h2.2 (by omega) (by omega) h5 h6
  exact⟨H',ra,a1,a2,a3,a4,λh e _=>bC (a5.trans e.symm)⟩
 | thing j x =>
  obtain⟨h1,h2,h3,h4,h5⟩:=ft
  refine jq T k (j:=j) (x:=x) (rs':=[]) D L rfl (by omega) (by omega) h5 λH1 D1 L1=>?_
  obtain⟨H',a1,a2,a3,a4,a5⟩:=pJ T k D1 L1 hw h1 h2 h4.1 h4.2 (by omega)
  exact⟨H',ra,a1,a2,a3,a4,λh e _=>bC (a5.trans e.symm)⟩
 | hand x =>
  obtain⟨h1,h2,h3,h4⟩:=ft
  refine jq T k (j:=4) (x:=x) (rs':=[]) D L rfl (by omega) h1 h3 λH1 D1 L1=>?_
  have lr:=D1.rl
  obtain⟨H',a1,a2,a3,a4⟩:=sx T k D1 L1 hw h2.1 h2.2 (by omega) (by omega)
  exact⟨H',_,a1,a2,a3,a4,λh e e8=>eU (e8.trans D1.ro) a2.ro (λz=>by injection z with z;have:=congrArg Xz z;simp at this) (by rw[US,e];exact jK (n:=H1.length) _)⟩
 | row r =>
  obtain⟨h1,h2,h3,h4,h5⟩:=ft
  obtain⟨H',a1,a2,a3⟩:=Ca T k D L hw wr h1 h2 h3 h4 h5
  exact⟨H',ra,a1,a2,a3⟩
end
theorem vS: ∀ ws:List Str,(∀ w∈ws,w.length<=30)->(VF ⟨#[32]⟩ ws).length<=31*ws.length
 | [],_=>by decide
 | [x],h=>by have:=h x (by simp);simp only[VF,UC];omega
 | x::y::r,h=>by
  have h1:=h x (by simp);have h2:=vS (y::r) λw m=>h w (T7 _ m);have e:(VF ⟨#[32]⟩ (x::y::r)).length=x.length+1+(VF ⟨#[32]⟩ (y::r)).length:=by
   show(x.cps++ #[32]++(VF ⟨#[32]⟩ (y::r)).cps).size=_;rw[Xp,Xp];rfl
  rw[e,Uc];omega
theorem iD(ws:List Str):jn ws=VF ⟨#[32]⟩ ws:=by unfold jn;rw[blank_eq];exact Zp _ _
def qK(m n:Nat):List (Str × PV):=(xg "box" m).take n
noncomputable def dF:PH:=[.lst [],.lst [],.lst [],.lst [],.lst []]
theorem C9{f g:Str}{x y:PV}{r r':List (Str × PV)}(n: ¬ g=f)(q:gI f y r=r'):gI f y ((g,x)::r)=(g,x)::r':=by rw[gI,if_neg n,q]
def kL(ws:List Str):Prop:=ws≠[]/\(∀ w∈ws,cV w/\w.length<=30)/\ws.length<=20
section
variable{pg:Tb}(T:cx pg)
include T
theorem BS(k:Nat){H:PH}{i:Int}{ws:List Str}(ok:kL ws):run pg (k+3) "Line" [.int i,.str (jn ws)] H= .ok (.ref H.length) (H++[bq (ae pg "@Line") i (H.length+1) 0,.lst (ws.map PV.str)]):=by
 refine wM T.Ie T.IM ?_;have sp: ∀ h,ph (.str (jn ws)) [.str " "] h= .ok (.ref h.length) (h++[.lst (ws.map PV.str)]):=λh=>by
  have e:=AL ok.1 λw m=>(ok.2.1 w m).1;have l:=vS ws λw m=>(ok.2.1 w m).2;have:=ok.2.2;rw[EW (by decide +kernel) (by rw[iD];omega) (by rw[e];omega),e]
 have e0:(H++[PO.obj (ae pg "@Line") []])[H.length]?=TK (.obj (ae pg "@Line") []):=aM;have p1: ∀ E,kf (run pg (k+1)) "@Line" "row" E (.int i) (.ref H.length) (H++[PO.obj (ae pg "@Line") []])= .ok (.nx E) (H++[PO.obj (ae pg "@Line") [("row",.int i)]]):=λE=>(nT T.fM e0 (by decide)).trans (by rw[Bt rfl];rfl);have e1:(H++[PO.obj (ae pg "@Line") [("row",.int i)],.lst (ws.map PV.str)])[H.length]?=TK (.obj (ae pg "@Line") [("row",.int i)]):=by simp
 have p2: ∀ E,kf (run pg (k+1)) "@Line" "words" E (.ref (H.length+1)) (.ref H.length) (H++[PO.obj (ae pg "@Line") [("row",.int i)],.lst (ws.map PV.str)])= .ok (.nx E) (H++[PO.obj (ae pg "@Line") [("row",.int i),("words",.ref (H.length+1))],.lst (ws.map PV.str)]):=λE=>(nT T.fM e1 (by show 1 < 1000;decide)).trans (by
  rw[Vr _ _ (T6 _),Wk,WB,gI,if_neg (by decide +kernel)];rfl)
 have e2:(H++[PO.obj (ae pg "@Line") [("row",.int i),("words",.ref (H.length+1))],.lst (ws.map PV.str)])[H.length]?=TK (.obj (ae pg "@Line") [("row",.int i),("words",.ref (H.length+1))]):=by simp
 have p3: ∀ E,kf (run pg (k+1)) "@Line" "place" E (.int 0) (.ref H.length) (H++[PO.obj (ae pg "@Line") [("row",.int i),("words",.ref (H.length+1))],.lst (ws.map PV.str)])= .ok (.nx E) (H++[bq (ae pg "@Line") i (H.length+1) 0,.lst (ws.map PV.str)]):=λE=>(nT T.fM e2 (by show 2 < 1000;decide)).trans (by
  rw[Vr _ _ (T6 _),Wk,WB,gI,if_neg (by decide +kernel),gI,if_neg (by decide +kernel)];rfl)
 have st:P3.settle (H++[PO.obj (ae pg "@Line") []]) .non (H++[bq (ae pg "@Line") i (H.length+1) 0,.lst (ws.map PV.str)])= .ok .non (H++[bq (ae pg "@Line") i (H.length+1) 0,.lst (ws.map PV.str)]) :=
  eU e0 (o':=bq (ae pg "@Line") i (H.length+1) 0) (by simp) (λz=>by unfold bq J7 at z;injection z with _ z;cases z) (by simp[bq,J7,PO.dH,PV.eA,PV.dH])
 have ij: ∀ h,fO (.str (jn ws)) h=true:=λ_=>rfl;rw[dn T.mL T.mM rfl];simp? [cw,gZ,p1,nP (ij _),sp,p2,p3,st]
theorem yc(k:Nat){H:PH}: ∃ H',run pg (k+3) "Draft" [] H= .ok (.ref H.length) (H++H')/\H'.length=10/\vk (ae pg "@Draft") (H++H') H.length [] ⟨0,λ_=>[],[],[],[]⟩:=by
 generalize hA:ae pg "@Draft" =A;generalize hm:H.length=m;have at0: ∀(o:PO)(r:PH),(H++o::r)[m]?=TK o:=λo r=>by simp[<- hm]
 have se: ∀(o o':PO)(r:PH),(H++o::r).set m o'=H++o'::r:=λo o' r=>by
  rw[<- hm,Vr _ _ (T6 _),Wk,WB]
 refine⟨gz A "box" m:: .dct (qD m)::(dF++[.lst [],.lst [],.lst []]),?_,rfl,?_⟩
 . rw[<- hm];refine wM T.DC T.Fg ?_;show run pg (k+2) "Draft.__init__" [.ref H.length] (H++[.obj (ae pg "@Draft") []])=_;rw[hm,hA];have w:=T.fI;rw[hA] at w;have pt: ∀{f:Str}{y:PV}{fs fs':List (Str × PV)}(r:PH)(e:az),fs.length < 1000->gI f y fs=fs'->kf (run pg (k+1)) "@Draft" f e y (.ref m) (H++PO.obj A fs::r)= .ok (.nx e) (H++PO.obj A fs'::r):=λr e l q=>by rw[nT w (at0 _ _) l,se,q]
   have p1:=λe=>pt (f:= "latest") (y:= .str "box") (fs:=[]) (fs':=qK m 1) [] e (by decide) rfl;have p2:=λe=>pt (f:= "names") (y:= .ref (m+1)) (fs:=qK m 1) (fs':=qK m 2) (.dct (qD m)::dF) e (by show 1 < 1000;decide) (C9 (by decide +kernel) rfl);have p3:=λe=>pt (f:= "worths") (y:= .ref (m+7)) (fs:=qK m 2) (fs':=qK m 3) (.dct (qD m)::(dF++[.lst []])) e (by show 2 < 1000;decide) (C9 (by decide +kernel) (C9 (by decide +kernel) rfl));have p4:=λe=>pt (f:= "rows") (y:= .ref (m+8)) (fs:=qK m 3) (fs':=qK m 4) (.dct (qD m)::(dF++[.lst [],.lst []])) e (by show 3 < 1000;decide) (C9 (by decide +kernel) (C9 (by decide +kernel) (C9 (by decide +kernel) rfl)));have p5:=λe=>pt (f:= "leaps") (y:= .ref (m+9)) (fs:=qK m 4) (fs':=xg "box" m) (.dct (qD m)::(dF++[.lst [],.lst [],.lst []])) e (by show 4 < 1000;decide) (C9 (by decide +kernel) (C9 (by decide +kernel) (C9 (by decide +kernel) (C9 (by decide +kernel) rfl))));have dk:dy [] [(.inr "box",.ref (m+2)),(.inr "lock",.ref (m+3)),(.inr "lane",.ref (m+4)),(.inr "door",.ref (m+5)),(.inr "hand",.ref (m+6))]=qD m:=by
    simp[dy,iL,aT,qD]
   have dd: ∀(c:CF)(e:az),oX (bQ (eS "box") (ay af) (bQ (eS "lock") (ay af) (bQ (eS "lane") (ay af) (bQ (eS "door") (ay af) (bQ (eS "hand") (ay af) ue))))) c e (H++[PO.obj A (qK m 1)])= .ok (.ref (m+1)) (H++PO.obj A (qK m 1):: .dct (qD m)::dF):=λc e=>by
    have d1:(bQ (eS "box") (ay af) (bQ (eS "lock") (ay af) (bQ (eS "lane") (ay af) (bQ (eS "door") (ay af) (bQ (eS "hand") (ay af) ue))))) c e (H++[PO.obj A (qK m 1)]++[.dct []])= .ok [(.inr "box",.ref (m+2)),(.inr "lock",.ref (m+3)),(.inr "lane",.ref (m+4)),(.inr "door",.ref (m+5)),(.inr "hand",.ref (m+6))] (H++PO.obj A (qK m 1):: .dct []::dF):=by
     simp? [BD,xb,BY,BZ,zD,hm];rfl
    have l1:(H++[PO.obj A (qK m 1)]).length=m+1:=by simp[hm]
    rw[xA,d1,aF,l1,Cg (by rw[Uo (by omega),hm,show m+1 - m=1 by omega];rfl) (by show 5<=15;decide),dk,Vr _ _ (by omega),hm,show m+1 - m=1 by omega];rfl
   have st:P3.settle (H++[PO.obj A []]) .non (H++gz A "box" m:: .dct (qD m)::(dF++[.lst [],.lst [],.lst []]))= .ok .non (H++gz A "box" m:: .dct (qD m)::(dF++[.lst [],.lst [],.lst []])) :=
    eU (i:=m) (at0 _ _) (at0 _ _) (λz=>by unfold gz xg at z;injection z with _ z;cases z) (by simp[gz,xg,PO.dH,PV.eA,PV.dH,hm])
   rw [dn T.kX T.kS rfl];unfold bN fZ;show fin _ (ah _ _ (run pg (k+1)) [TK (.ref m)] (H++[PO.obj A []]))=_;refine YM (congrArg (fin _) (a₂ := .ok (.nx [TK (.ref m)]) (H++gz A "box" m:: .dct (qD m)::(dF++[.lst [],.lst [],.lst []]))) ?_) (CU.trans st);have el0: ∀(c:CF)(e:az)(X:PH),ay af c e X= .ok (.ref X.length) (X++[.lst []]):=λc e X=>by simp? [UE]
   have el: ∀(c:CF)(e:az)(fs:List (Str × PV))(r r':PH)(q:Nat),r++[.lst []]=r'->m+2+r.length=q->ay af c e (H++PO.obj A fs:: .dct (qD m)::r)= .ok (.ref q) (H++PO.obj A fs:: .dct (qD m)::r'):=λc e fs r r' q z1 z2=>by
    rw [el0,<- z1,<- z2,TZ,TX,hm,Uc,Uc,show m+(r.length+1+1)=m+2+r.length by omega];rfl
   have el3:=λc e=>el c e (qK m 2) dF (dF++[.lst []]) (m+7) rfl rfl;have el4:=λc e=>el c e (qK m 3) (dF++[.lst []]) (dF++[.lst [],.lst []]) (m+8) rfl rfl;have el5:=λc e=>el c e (qK m 4) (dF++[.lst [],.lst []]) (dF++[.lst [],.lst [],.lst []]) (m+9) rfl rfl;refine(aD (e1:=[TK (.ref m)]) (h1:=H++[PO.obj A (qK m 1)]) ?_).trans ?_
   . simp? [p1]
   refine(aD (e1:=[TK (.ref m)]) (h1:=H++PO.obj A (qK m 2):: .dct (qD m)::dF) ?_).trans ?_
   . simp? [↓dd,p2]
   refine(aD (e1:=[TK (.ref m)]) (h1:=H++PO.obj A (qK m 3):: .dct (qD m)::(dF++[.lst []])) ?_).trans ?_
   . generalize dF++[PO.lst []]=Z at el3 p3 ⊢;generalize dF=Z0 at el3 ⊢;simp? [↓el3,p3]
   refine(aD (e1:=[TK (.ref m)]) (h1:=H++PO.obj A (qK m 4):: .dct (qD m)::(dF++[.lst [],.lst []])) ?_).trans ?_
   . generalize dF++[PO.lst [],PO.lst []]=Z at el4 p4 ⊢;generalize dF++[PO.lst []]=Z0 at el4 ⊢;simp? [↓el4,p4]
   . generalize dF++[PO.lst [],PO.lst [],PO.lst []]=Z at el5 p5 ⊢;generalize dF++[PO.lst [],PO.lst []]=Z0 at el5 ⊢;simp? [↓el5,p5];rfl
 . have g: ∀ i o,(gz A "box" m:: .dct (qD m)::(dF++[PO.lst [],.lst [],.lst []]))[i]?=TK o->(H++gz A "box" m:: .dct (qD m)::(dF++[PO.lst [],.lst [],.lst []]))[m+i]?=TK o:=λi o e=>by
    rw[Uo (by omega),show m+i - H.length=i by omega];exact e
   refine⟨g 0 _ rfl,λk hk=>?_,g 1 _ rfl,g 7 _ rfl,g 8 _ rfl,g 9 _ rfl,rfl,λk a r e1=>by simp at e1,λa ma=>(nomatch ma),List.nodup_nil⟩;show(H++_)[m+2+k]?=_;rw[Nat.add_assoc]
   match k,hk with
   | 0,_=>exact g 2 _ rfl
   | 1,_=>exact g 3 _ rfl
   | 2,_=>exact g 4 _ rfl
   | 3,_=>exact g 5 _ rfl
   | 4,_=>exact g 6 _ rfl
end
def Sd.run(s:Sd)(i:Nat):List Ln->Sd
 | []=>s
 | l::r=>Sd.run (s.next i l) (i+1) r
def Sd.good(pg:Tb)(s:Sd)(i:Nat):List Ln->Prop
 | []=>True
 | l::r=>s.fits pg l/\kL l.w/\Sd.good pg (s.next i l) (i+1) r
def aO(l:Ln):PV:= .str (jn l.w)
def QV(i:Nat):List Ln->List PV
 | []=>[]
 | l::r=> .tup [.int i,aO l]::QV (i+1) r
theorem JL(ls:List Ln):qY (ls.map aO)=QV 0 ls:=by
 have: ∀(ls:List Ln)(i:Nat),((ls.map aO).zipIdx i).map (λq=>PV.tup [.int (q.2:Int),q.1])=QV i ls:=λls=>by
  induction ls with
  | nil=>intro i;rfl
  | cons l r ih=>intro i;rw[T9,List.zipIdx_cons,T9,ih];rfl
 exact this ls 0
theorem Rd.trans{H H1 H2:PH}{m:Nat}(a:Rd H H1 m)(b:Rd H1 H2 m):Rd H H2 m:=⟨λi h=>(b.low i h).trans (a.low i h),UQ a.len b.len⟩
theorem Rd.gr{H g:PH}{m:Nat}(l:m<=H.length):Rd H (H++g) m:=⟨λi h=>Uq (by omega),by simp⟩
theorem Rd.back{H H':PH}(q:Rd H H' H.length): ∃ g,H'=H++g:=⟨H'.drop H.length,by
 apply List.ext_getElem?;intro i;rcases Xm i H.length with z | z
 . rw[q.low i z,Uq z]
 . rw[Uo z,aak,show H.length+(i - H.length)=i by omega]⟩
def S6:MS:=(aC (ag "read_line" (ab (aa 1) (ab (ag "Line" (a2 (aa 2) (aa 3))) af))))
section
variable{pg:Tb}(T:cx pg)
include T
theorem p7(k:Nat){m n0:Nat}{xs:List PV}(hn:n0 < m){o:Option PV}: ∀(ls:List Ln)(s:Sd)(i:Nat)(H:PH)(ra:List Nat)(e2 e3:Option PV),vk (ae pg "@Draft") H m ra s->H[n0]?=TK (.lst xs)->s.good pg i ls ->
  ∃ f2 f3 H' ra',fB n0 xs (bc (gT 2 (ao (gN 2) (ao (gN 3) bE))) S6 (run pg (k+11))) (QV i ls) [o,TK (.ref m),e2,e3,TL,TL] H= .ok (.nx [o,TK (.ref m),f2,f3,TL,TL]) H'/\vk (ae pg "@Draft") H' m ra' (s.run i ls)/\Rd H H' m
 | [],s,i,H,ra,e2,e3,D,h0,_=>⟨e2,e3,H,ra,zA h0,D,⟨λ_ _=>rfl,T6 _⟩⟩
 | l::r,s,i,H,ra,e2,e3,D,h0,g=>by
  have nl:=BS T (k+8) (H:=H) (i:=(i:Int)) g.2.1;have l9:=(TR.mp D.le).1;have lra: ∀ a∈ra,a < H.length:=λa ma=>by
   obtain⟨q,eq⟩:=XD ma;obtain⟨w,ew⟩: ∃ w,s.rs[q]?=TK w:=⟨_,UI (by rw[<- D.rl];exact(TR.mp eq).1)⟩
   exact(TR.mp (D.rr q a w eq ew)).1
  have D1:vk (ae pg "@Draft") (H++[bq (ae pg "@Line") i (H.length+1) 0,.lst (l.w.map PV.str)]) m ra s:=D.gr _;have L1:LS (ae pg "@Line") (H++[bq (ae pg "@Line") i (H.length+1) 0,.lst (l.w.map PV.str)]) m H.length (H.length+1) ra i 0 l.w:=⟨by simp,by simp,by omega,λz=>by have:=lra _ z;omega⟩
  obtain⟨H1,ra1,a1,a2,a3⟩:=rG T k D1 L1 (by omega) (λz=>by have:=lra _ z;omega) g.1;have r1:Rd H H1 m:=(Rd.gr (by omega)).trans a3;obtain⟨f2,f3,H',ra',b1,b2,b3⟩:=p7 k hn r (s.next i l) (i+1) H1 ra1 (TK (.int i)) (TK (aO l)) a2 ((r1.low n0 hn).trans h0) g.2.2;refine⟨f2,f3,H',ra',?_,b2,r1.trans b3⟩;refine(zg h0 ?_).trans b1;generalize H++[bq (ae pg "@Line") i (H.length+1) 0,.lst (l.w.map PV.str)]=Y at nl a1;simp? [S6,aO,nl,a1]
end
def Bg(s:Sd):PV:= .tup [.tup (gq ((s.N 0).map PV.str) (s.wo.map PV.int)),.tup ((s.N 1).map PV.str),.tup ((s.N 2).map PV.str),.tup ((s.N 3).map PV.str),.tup (gq ((s.N 4).map PV.str) (s.rs.map aH))]
theorem kJ(xs:List Str):PV.aS (xs.map PV.str)=true:=by
 induction xs with
 | nil=>rfl
 | cons x r ih=>rw[T9,PV.aS,ih];rfl
theorem nU: ∀{xs ys:List PV},PV.aS xs=true->PV.aS ys=true->PV.aS (gq xs ys)=true
 | [],_,_,_=>rfl
 | x::r,[],_,_=>rfl
 | x::r,y::t,h,h'=>by
  rw[PV.aS,Uw] at h h';show PV.aS (.tup [x,y]::gq r t)=true;rw[PV.aS,nU h.2 h'.2];simp[PV.flat,PV.aS,h.1,h'.1]
theorem yq(xs:List Int):PV.aS (xs.map PV.int)=true:=by
 induction xs with
 | nil=>rfl
 | cons x r ih=>rw[T9,PV.aS,ih];rfl
theorem yU(xs:List (List Rw)):PV.aS (xs.map aH)=true:=by
 induction xs with
 | nil=>rfl
 | cons x r ih=>rw[T9,PV.aS,ih,aH,PV.flat,iY];rfl
theorem sV(s:Sd):(Bg s).flat=true:=by
 simp only[Bg,PV.flat,PV.aS,kJ,nU (kJ _) (yq _),nU (kJ _) (yU _),WK]
def RL:MS:=(cX (aX (aq An (aa 4) (eB cN (ab (aq bu (bO "@Draft" "rows" (aa 1)) (aa 5)) af)))) jx c8)
def Sd.BL(s:Sd):Prop:= ∀ q∈s.lp,∃ r,s.rs[q.2.2]?=TK r/\q.2.1<=r.length
section
variable{pg:Tb}(T:cx pg)
include T
theorem uS(k:Nat){s:Sd}{H:PH}{m:Nat}{ra:List Nat}(D:vk (ae pg "@Draft") H m ra s)(l4:s.rs.length<=4):run pg (k+2) "Draft.finished" [.ref m] H= .ok (Bg s) H:=by
 have f1:=gB T D (k:=k);have f2:=uE T D (k:=k);have f3:=jA T D (k:=k);have i0:bu (.ref (m+1)) (.str "box") H= .ok (.ref (m+2)) H:=cW T D (j:=0) (by decide);have z0:Hb (.ref (m+2)) (.ref (m+7)) H= .ok (.tup (gq ((s.N 0).map PV.str) (s.wo.map PV.int))) H:=OF (D.nm 0 (by decide)) D.w7;have i4:bu (.ref (m+1)) (.str "hand") H= .ok (.ref (m+6)) H:=cW T D (j:=4) (by decide);have lc:P3.jD ⟨TK (m+8),ra.map PV.ref⟩ (bL 1 (gN 3) aV (eB bZ (a1 (aa 3))) (run pg (k+1)) [TK (.ref m),TK (.tup (gq ((s.N 0).map PV.str) (s.wo.map PV.int))),TL]) (ra.map PV.ref) [] H= .ok (s.rs.map aH) H:=by
  have e1:ra.map PV.ref=(ra.zip s.rs).map (λp=>PV.ref p.1):=by
   show _=(ra.zip s.rs).map (PV.ref ∘ Prod.fst);rw[<- VB,List.map_fst_zip (by rw[D.rl];exact T6 _)]
  have e2:(ra.zip s.rs).filterMap (λp=>TK (aH p.2))=s.rs.map aH:=by
   rw[Vm];show(ra.zip s.rs).map (aH ∘ Prod.snd)=_;rw[<- VB,List.map_snd_zip (by rw[D.rl];exact T6 _)]
  have fi:pE.iw ⟨TK (m+8),ra.map PV.ref⟩ H=true:=iX D.ro;generalize (⟨TK (m+8),ra.map PV.ref⟩:pE)=it at fi ⊢;rw[e1];refine(cO fi (ra.zip s.rs) [] (f:=λp=>TK (aH p.2)) (λp mp=>?_) (by rw[List.length_zip,D.rl];simp;omega)).trans (by rw[UU,e2]);obtain⟨q,eq⟩:=XD mp;rw[Yh] at eq;have ht:=D.rr q p.1 p.2 eq.1 eq.2;simp? [ht,aH]
 have ir:mC (.ref (m+8)) H= .ok ⟨TK (m+8),ra.map PV.ref⟩ H:=by simp only[mC,bp,D.ro]
 have hl:(s.rs.map aH).length<=16777216:=by rw[TV];omega
 have z4:Hb (.ref (m+6)) (.ref H.length) (H++[.lst (s.rs.map aH)])= .ok (.tup (gq ((s.N 4).map PV.str) (s.rs.map aH))) (H++[.lst (s.rs.map aH)]):=OF (cJ (D.nm 4 (by decide))) aM;have D':=D.gr [.lst (s.rs.map aH)];have f1':=gB T D' (k:=k);have i1:bu (.ref (m+1)) (.str "lock") (H++[.lst (s.rs.map aH)])= .ok (.ref (m+3)) (H++[.lst (s.rs.map aH)]):=cW T D' (j:=1) (by decide);have i2:bu (.ref (m+1)) (.str "lane") (H++[.lst (s.rs.map aH)])= .ok (.ref (m+4)) (H++[.lst (s.rs.map aH)]):=cW T D' (j:=2) (by decide);have i3:bu (.ref (m+1)) (.str "door") (H++[.lst (s.rs.map aH)])= .ok (.ref (m+5)) (H++[.lst (s.rs.map aH)]):=cW T D' (j:=3) (by decide);have t1:(H++[PO.lst (s.rs.map aH)])[m+3]?=TK (.lst ((s.N 1).map PV.str)):=D'.nm 1 (by decide);have t2:(H++[PO.lst (s.rs.map aH)])[m+4]?=TK (.lst ((s.N 2).map PV.str)):=D'.nm 2 (by decide);have t3:(H++[PO.lst (s.rs.map aH)])[m+5]?=TK (.lst ((s.N 3).map PV.str)):=D'.nm 3 (by decide);have st:P3.settle H (Bg s) (H++[.lst (s.rs.map aH)])= .ok (Bg s) H:=dc (sV s);have nl:CC (s.rs.map aH) H= .ok (.ref H.length) (H++[.lst (s.rs.map aH)]):=iF hl;rw[dn T.k8 T.ky rfl];unfold Bg at st ⊢;generalize gq ((s.N 0).map PV.str) (s.wo.map PV.int)=Z0 at z0 lc st ⊢;generalize gq ((s.N 4).map PV.str) (s.rs.map aH)=Z4 at z4 st ⊢;generalize hX:H++[PO.lst (s.rs.map aH)]=X at *;generalize s.rs.map aH=R at *;have lc2:=lc;simp? [cM,gm,f1,f2,f3,i0,z0,i4,ir,lc,hX,z4,f1',i1,i2,i3,t1,t2,t3,st]
theorem pA(k:Nat){s:Sd}{H:PH}{m:Nat}{ra:List Nat}(D:vk (ae pg "@Draft") H m ra s){xs:List PV}(h9:H[m+9]?=TK (.lst xs)){o o3:Option PV}: ∀(ls:List (Int × Int × Nat))(e2 e4 e5:Option PV),(∀ q∈ls,∃ r,s.rs[q.2.2]?=TK r/\q.2.1<=r.length) ->
  ∃ f2 f4 f5,bh ⟨TK (m+9),xs⟩ (bc (gT 3 (ao (gN 2) (ao (gN 4) (ao (gN 5) bE)))) RL (run pg (k+1))) (ls.map C6) [o,TK (.ref m),e2,o3,e4,e5] H= .ok (.nx [o,TK (.ref m),f2,o3,f4,f5]) H
 | [],e2,e4,e5,_=>⟨e2,e4,e5,by rw[UE];exact nc (iX h9)⟩
 | q::ls,e2,e4,e5,hq=>by
  obtain⟨f2,f4,f5,ih⟩:=pA k D h9 ls (TK (.int q.1)) (TK (.int q.2.1)) (TK (.int q.2.2)) λz m=>hq z (T7 _ m);refine⟨f2,f4,f5,?_⟩;obtain⟨r,er,le⟩:=hq q Ug;have hlt:q.2.2 < ra.length:=by rw[D.rl];exact(TR.mp er).1
  have ea:ra[q.2.2]?=TK ra[q.2.2]:=UI hlt;have hr:=D.rr q.2.2 _ r ea er;have f1:=jA T D (k:=k);have ix:bu (.ref (m+8)) (.int (q.2.2:Nat)) H= .ok (.ref ra[q.2.2]) H:=by
   rw[va,D.ro,x6,P3.gK rfl (by rw[U1,ea];rfl)];rfl
  have ng: ¬ ((r.length:Nat):Int) < q.2.1:=by omega
  have st:bc (gT 3 (ao (gN 2) (ao (gN 4) (ao (gN 5) bE)))) RL (run pg (k+1)) (C6 q) [o,TK (.ref m),e2,o3,e4,e5] H= .ok (.nx [o,TK (.ref m),TK (.int q.1),o3,TK (.int q.2.1),TK (.int q.2.2)]) H:=by
   simp? [C6,RL,f1,ix,hr,TV,ng]
  rw[T9,iS (iX h9),st,aF,aU];exact ih
theorem FN(k:Nat){H:PH}{n0:Nat}{ls:List Ln}(h0:H[n0]?=TK (.lst (ls.map aO))){s:Sd}(es:Sd.run ⟨0,λ_=>[],[],[],[]⟩ 0 ls=s)(gd:Sd.good pg ⟨0,λ_=>[],[],[],[]⟩ 0 ls)(ne:s.rs≠[])(l4:s.rs.length<=4)(lo:s.BL) :
  run pg (k+12) "read" [.ref n0] H= .ok (Bg s) H:=by
 have hn:n0 < H.length:=(TR.mp h0).1;obtain⟨E,d1,d2,d3⟩:=yc T (k+8) (H:=H);have h0':(H++E)[n0]?=TK (.lst (ls.map aO)):=cJ h0;obtain⟨f2,f3,H',ra,a1,a2,a3⟩:=p7 T k hn (o:=TK (.ref n0)) ls _ 0 (H++E) [] TL TL d3 h0' gd;rw[es] at a2;have rd:Rd H H' H.length:=(Rd.gr (T6 _)).trans a3;obtain⟨g,rfl⟩:=rd.back;have fr:=jA T a2 (k:=k+10);have fl:=xi T a2 (k:=k+10);have h8:=a2.ro;have h9:=a2.le;have lr:ra.length=s.rs.length:=a2.rl;have p0:s.rs.length≠0:=λz=>ne (YL.mp z);have n8: ¬ (ra.length:Int)=0:=by omega
 obtain⟨u2,u4,u5,b1⟩:=pA T (k+10) a2 h9 (o:=TK (.ref n0)) (o3:=f3) s.lp f2 TL TL lo;have m4:=λE=>kb T a2 (k:=k+10) (g:= "Draft.finished") (E:=E) (ma:=af) gS.2.2.2.2;have fn:=uS T (k+9) a2 l4;have st:P3.settle H (Bg s) (H++g)= .ok (Bg s) H:=dc (sV s);rw[run_eq T.MQ rfl];show fin H (vj (run pg (k+11)) [TK (.ref n0),TL,TL,TL,TL,TL] H)=_;unfold vj;refine(congrArg (fin H) ((aD (e1:=[TK (.ref n0),TK (.ref H.length),TL,TL,TL,TL]) (h1:=H++E) ?_).trans ?_)).trans (YM (b:=fin H (.ok (.rt (Bg s)) (H++g))) rfl (fh.trans st))
 . simp? [d1]
 refine(aD (e1:=[TK (.ref n0),TK (.ref H.length),f2,f3,TL,TL]) (h1:=H++g) ?_).trans ?_
 . have v0:aa 0 (run pg (k+11)) [TK (.ref n0),TK (.ref H.length),TL,TL,TL,TL] (H++E)= .ok (.ref n0) (H++E):=rfl;rw[Gy,v0,aF,E5 h0',JL];exact a1
 generalize H++g=X at *;generalize H.length=m at *;refine(aD (e1:=[TK (.ref n0),TK (.ref m),f2,f3,TL,TL]) (h1:=X) ?_).trans ?_
 . simp? [fr,h8,TV,n8]
 refine(aD (e1:=[TK (.ref n0),TK (.ref m),u2,f3,u4,u5]) (h1:=X) ?_).trans ?_
 . have it:ef (bO "@Draft" "leaps" (aa 1)) (run pg (k+11)) [TK (.ref n0),TK (.ref m),f2,f3,TL,TL] X= .ok ⟨TK (m+9),s.lp.map C6⟩ X:=by
    have ir:mC (.ref (m+9)) X= .ok ⟨TK (m+9),s.lp.map C6⟩ X:=by simp only[mC,bp,h9]
    simp? [fl,ir]
   rw[ee,it,aF,c7];exact b1
 . simp? [m4,fn]
end
structure Pr where
 bs:List (Str × Int)
 s2:List Str
 s3:List Str
 s4:List Str
 hs:List (Str × List Rw)
noncomputable def vy(b:Str × Int):PV:= .tup [.str b.1,.int b.2]
def Pr.v(p:Pr):PV:= .tup [.tup (p.bs.map vy),.tup (p.s2.map PV.str),.tup (p.s3.map PV.str),.tup (p.s4.map PV.str),.tup (p.hs.map bU)]
structure Pr.Ok(p:Pr):Prop where
 l1:p.bs.length<=4
 l2:p.s2.length<=4
 l3:p.s3.length<=4
 l4:p.s4.length<=4
 l5:p.hs.length<=4
 ne:p.hs≠[]
 nm: ∀ x∈p.bs.map (·.1)++(p.s2++(p.s3++(p.s4++p.hs.map (·.1)))),aL x
 nd:(p.bs.map (·.1)++(p.s2++(p.s3++(p.s4++p.hs.map (·.1))))).Nodup
 wo: ∀ b∈p.bs,0<=b.2/\b.2<=999
 rw: ∃ L:List Str,(∀ x∈L,aL x)/\ ∀ h∈p.hs,h.2.length<=30/\ ∀ r∈h.2,kD L h.2.length r/\pb (p.bs.map (·.1)) p.s2 p.s3 p.s4 r
theorem EV(bs:List (Str × Int)):PV.aS (bs.map vy)=true:=by
 induction bs with
 | nil=>rfl
 | cons x r ih=>rw[T9,PV.aS,ih];rfl
theorem Pr.flat(p:Pr):p.v.flat=true:=by
 simp only[Pr.v,PV.flat,PV.aS,EV,qO,nH,WK]
theorem tM: ∀ qs:List (Str × PV),(∀ q∈qs,Bm 0 999 q.2=true/\ ∃ n,q.2= .int n)-> ∃ qi:List (Str × Int),qs.map pr=qi.map vy/\qi.map (·.1)=qs.map (·.1)/\ ∀ b∈qi,0<=b.2/\b.2<=999
 | [],_=>⟨[],rfl,rfl,λ_ m=>nomatch m⟩
 | q::r,y3=>by
  obtain⟨qi,a1,a2,a3⟩:=tM r (λq m=>y3 q (T7 _ m));obtain⟨h1,v,h2⟩:=y3 q Ug;rw[h2] at h1;have h3:0<=v/\v<=999:=of_decide_eq_true h1;exact⟨(q.1,v)::qi,by rw[T9,a1,T9];simp only[pr,vy,h2],by rw[T9,a2];rfl,TN.mpr ⟨h3,a3⟩⟩
section
variable{pg:Tb}(T:cx pg)
include T
theorem oK(j:Nat){ns:List Int}(hn:ns.length<=63)(k:Int)(o:Option Int)(g:PH)(k0:0<=k)(k9:k+11000<=1000000) :
  ∃(p:Pr)(k':Int)(o':Option Int),p.Ok/\k<=k'/\k'<=k+11000/\run pg (j+10) "_law_program" [.ref 1] (cv ns::bK k o::g)= .ok p.v (cv ns::bK k' o'::g):=by
 obtain⟨g1,n,nm,aa1,aa2,aa3,aa5,aa4⟩:=BH T (j+6) hn k o g k0 (by omega);obtain⟨g2,nn,nd,s1,s2,s3,s4,s5,n5,u3,u4,b1,b2,b3,b4,b5,b7,b6⟩:=yM T (j+7) hn (k+1) o (g++g1) aa1 (by omega) (by omega) aa2 aa3;have okm: ∀ x∈s1++(s2++(s3++(s4++(s5++n5)))),aL x:=λx m=>aa3 x (b7 ▸ m);have k1': ∀ x∈s1,aL x:=λx m=>okm x (by simp[m]);have k5': ∀ x∈s5,aL x:=λx m=>okm x (by simp[m]);have k6': ∀ x∈n5,aL x:=λx m=>okm x (by simp[m]);obtain⟨g3,np,ps,cq,c1,c2,c3,c4⟩:=vx T (j+7) hn (k+1+5) o (g++g1++g2) b1 b2 (by omega) (by omega) k1' k5' k6' u3 u4 TL TL;have NB:d8 (g++g1++g2++g3) nd s1 s2 s3 s4 s5:=b1.app;generalize hB:g++g1++g2++g3=B at *;have NB':=NB;obtain⟨⟨x1,x2,x3,x4,x5,e0,e1,e2,e3,e4,e5⟩,_,l1,l2,l3,l4,l5⟩:=NB';obtain⟨w1,w2,w3,w4,w5⟩:=i8 (b1:=x1+1+1) (b2:=x2+1+1) (b3:=x3+1+1) (b4:=x4+1+1) (b5:=x5+1+1);obtain⟨hs,k1,o1,g4,v4,v7,d1,d2,d3,d4,d5⟩:=B9 T j hn (L:=ps) c2 (by omega) cq (λx m=>m) NB c1 e5 (TK (.ref (nn+1+1))) u3 TL s5 [] (k+1+5+1) o [] u4 TL (by omega) (by omega) (by simp;omega);obtain⟨bs,k2,g5,f1,f5,f2,f3,f4⟩:=AS T (j+7) hn e1 o1 (TK (.ref (nn+1+1))) (TK (.ref (nd+1+1))) u3 v4 (TK (.ref (np+1+1))) (TK (.ref (B.length+1+1))) v7 TL s1 [] k1 (.lst (hs.map bU)::g4) (by omega) (by omega) (by simp;omega);obtain⟨qs,y1,y2,y3⟩:=f5;obtain⟨qi,z1,z2,z3⟩:=tM qs y3;rw[<- y1] at z1;rw[y2] at z2
 let p:Pr:=⟨qi,s2,s3,s4,hs⟩
 have pv:p.v= .tup [.tup bs,.tup (s2.map PV.str),.tup (s3.map PV.str),.tup (s4.map PV.str),.tup (hs.map bU)]:=by rw[z1];rfl
 have al:s1++(s2++(s3++(s4++(s5++n5))))=(p.bs.map (·.1)++(p.s2++(p.s3++(p.s4++p.hs.map (·.1)))))++n5:=by
  show _=(qi.map (·.1)++(s2++(s3++(s4++hs.map (·.1)))))++n5
  rw[z2,d1];simp
 have pf:=p.flat;refine⟨p,k2,o1,⟨?_,l2,l3,l4,?_,?_,λx m=>okm x (by rw[al];exact Wh _ m),?_,z3,ps,cq,λh m=>?_⟩,by omega,by omega,?_⟩
 . show qi.length<=4;rw[<- z2,TV] at l1;exact l1
 . show hs.length<=4;rw[<- d1,TV] at l5;exact l5
 . intro c;have c':hs.map (·.1)=[]:=by rw[show hs=[] from c];rfl
   rw[d1] at c';rw[c'] at b4;simp at b4
 . rw[<- b7,al] at aa5;exact(Xq.mp aa5).1
 . have:=d2 h m;show h.2.length<=30/\ ∀ r∈h.2,kD ps h.2.length r/\pb (qi.map (·.1)) s2 s3 s4 r
   rw[z2];exact this
 rw[pv] at pf ⊢;rw[run_eq T.nO rfl];unfold dt iq;have s0: ∀ rest,ah (ax (ag "_law_names" (a1 (aa 0))) (gN 1)) rest (run pg (j+9)) [TK (.ref 1),TL,TL,TL,TL,TL,TL,TL,TL] (cv ns::bK k o::g)=rest (run pg (j+9)) [TK (.ref 1),TK (.ref (n+1+1)),TL,TL,TL,TL,TL,TL,TL] (cv ns::bK (k+1) o::(g++g1)):=λrest=>by
  simp? [aa4]
 refine(congrArg (fin _) ((s0 _).trans ((b6 _).trans (c4 _)))).trans ?_;have o0: ∀ G:PH,(B++G)[nd]?=_:=λG=>(aR (bB e0)).trans e0;have y1: ∀ G:PH,(B++G)[x1]?=_:=λG=>(aR (bB e1)).trans e1;have y2: ∀ G:PH,(B++G)[x2]?=_:=λG=>(aR (bB e2)).trans e2;have y3: ∀ G:PH,(B++G)[x3]?=_:=λG=>(aR (bB e3)).trans e3;have y4: ∀ G:PH,(B++G)[x4]?=_:=λG=>(aR (bB e4)).trans e4;have y5: ∀ G:PH,(B++G)[x5]?=_:=λG=>(aR (bB e5)).trans e5;rw[UE,UU] at d5;rw[UU,Vf] at f4;simp? [o0,w1,w2,w3,w4,w5,y1,y2,y3,y4,y5,d5,f4];rw[<- hB];simp only[TZ];exact eG pf
end
theorem bg{x:Str}(o:aL x):cV x/\x.length<=30:=by
 have h:=o.2.2.1;simp only[gp,Uw,Wt] at h;refine⟨λm=>?_,by have:=o.2.1;omega⟩;have:=h.2.1 32 m;exact absurd this (by decide +kernel)
theorem jG{n:Int}(h0:0<=n)(h9:n<=1000):cV (aN n)/\(aN n).length<=30:=⟨yA h0,by have:=(cY h0 h9).2.1;omega⟩
theorem jV: ∀ w∈W5++vd++W6,cV w/\w.length<=30:=by unfold cV;decide +kernel
theorem dB: ∀{e:Sm},e.ok-> ∀ w∈aK e,cV w/\w.length<=30
 | .num n,o=>λw m=>by rw[aK,UD] at m;rw[m];exact jG o.1 (by have:=o.2;omega)
 | .of x,o=>λw m=>by rw[aK,UD] at m;rw[m];exact bg o
 | .un a,o=>λw m=>by
  rw[aK] at m;rcases Uh.mp m with rfl | m
  . exact jV _ (by decide +kernel)
  . exact dB (e:=a) o w m
 | .bin q a b,o=>λw m=>by
  rw[aK] at m;rcases Uh.mp m with rfl | m
  . exact jV _ (by cases q<;>decide +kernel)
  rcases Uz.mp m with m | m
  . exact dB (e:=a) o.1 w m
  . exact dB (e:=b) o.2 w m
theorem pY{L:List Str}{k:Nat}{s1 s2 s3 s4:List Str}{r:Rw}(ok:kD L k r)(k30:k<=30)(nm:pb s1 s2 s3 s4 r)(hL: ∀ x∈L,aL x)(h1: ∀ x∈s1,aL x)(h2: ∀ x∈s2,aL x)(h3: ∀ x∈s3,aL x)(h4: ∀ x∈s4,aL x):kL (dU r):=by
 have w0: ∀ s∈vd,cV s/\s.length<=30:=λs m=>jV s (by simp[m]);have sm: ∀{e:Sm},kr e->(∀ w∈aK e,cV w/\w.length<=30)/\(aK e).length<=12:=λ{e} o=>⟨dB o.1,by rw[bR];exact o.2.2⟩
 have one: ∀{a b:Str},a∈vd->(cV b/\b.length<=30)->kL [a,b]:=λha hb=>⟨by simp,TN.mpr ⟨w0 _ ha,TN.mpr ⟨hb,λ_ m=>nomatch m⟩⟩,by simp⟩
 have two: ∀{a b c:Str},a∈vd->(cV b/\b.length<=30)->(cV c/\c.length<=30)->kL [a,b,c]:=λha hb hc=>⟨by simp,TN.mpr ⟨w0 _ ha,TN.mpr ⟨hb,TN.mpr ⟨hc,λ_ m=>nomatch m⟩⟩⟩,by simp⟩
 have sum: ∀{a b:Str}{e:Sm},a∈vd->(cV b/\b.length<=30)->kr e->kL (a::b::aK e):=λha hb o=>⟨by simp,TN.mpr ⟨w0 _ ha,TN.mpr ⟨hb,(sm o).1⟩⟩,by have:=(sm o).2;simp;omega⟩
 cases r with
 | let_ x e=>exact sum (by decide +kernel) (bg (hL x ok.1)) ok.2
 | leap v e=>exact sum (by decide +kernel) (jG ok.1 (by have:=ok.2.1;omega)) ok.2.2
 | take l=>exact one (by decide +kernel) (bg (h2 l nm))
 | free l=>exact one (by decide +kernel) (bg (h2 l nm))
 | get x b=>exact two (by decide +kernel) (bg (hL x ok)) (bg (h1 b nm))
 | put b e=>exact sum (by decide +kernel) (bg (h1 b nm)) ok
 | send l e=>exact sum (by decide +kernel) (bg (h3 l nm)) ok
 | fetch x l=>exact two (by decide +kernel) (bg (hL x ok)) (bg (h3 l nm))
 | say d e=>exact sum (by decide +kernel) (bg (h4 d nm)) ok
 | clock x=>exact one (by decide +kernel) (bg (hL x ok))
 | lot x v=>exact two (by decide +kernel) (bg (hL x ok.1)) (jG (by have:=ok.2.1;omega) ok.2.2)
 | hear x d=>exact two (by decide +kernel) (bg (hL x ok)) (bg (h4 d nm))
theorem Sd.jT(a b:List Ln): ∀(s:Sd)(i:Nat),s.run i (a++b)=(s.run i a).run (i+a.length) b:=by
 induction a with
 | nil=>intro s i;rfl
 | cons l r ih=>intro s i;rw[Vf,Sd.run,ih,Sd.run,Uc,show i+1+r.length=i+(r.length+1) by omega]
theorem Sd.iz{pg:Tb}(a b:List Ln): ∀(s:Sd)(i:Nat),s.good pg i a->(s.run i a).good pg (i+a.length) b->s.good pg i (a++b):=by
 induction a with
 | nil=>intro s i _ h;exact h
 | cons l r ih=>intro s i h1 h2;exact⟨h1.1,h1.2.1,ih _ _ h1.2.2 (by rw[Sd.run,Uc,show i+(r.length+1)=i+1+r.length by omega] at h2;exact h2)⟩
noncomputable def jc(N:Nat->List Str)(j:Nat)(xs:List Str):Nat->List Str:=λq=>if q=j then N j++xs else N q
theorem m8{N:Nat->List Str}{j:Nat}:jc N j []=N:=by
 funext q;unfold jc;split
 . rename_i h;rw[h,Ui]
 . rfl
theorem kj{N:Nat->List Str}{j:Nat}{x:Str}{xs:List Str}:jc (mn N j x) j xs=jc N j (x::xs):=by
 funext q;unfold jc mn;split
 . rw[if_pos rfl];simp
 . rfl
theorem oH{N:Nat->List Str}{j:Nat}{x y:Str}(h: ∀ q,q < 5->y ∉ N q)(ne:y≠x): ∀ q,q < 5->y ∉ mn N j x q:=λq hq m=>by
 unfold mn at m;split at m
 . rename_i e;rcases Uz.mp m with m | m
   . exact h j (e ▸ hq) m
   . exact ne (UD.mp m)
 . exact h q hq m
theorem qw{a x:Str}(ha:a∈W5)(o:aL x):kL [a,x]:=⟨by simp,TN.mpr ⟨jV _ (by simp[ha]),TN.mpr ⟨bg o,λ_ m=>nomatch m⟩⟩,by simp⟩
theorem gJ{pg:Tb}{j:Nat}(h0:0 < j)(h4:j < 4): ∀(xs:List Str)(s:Sd)(i:Nat),s.l<=j->(∀ x∈xs,s.new x)->xs.Nodup->(s.N j).length+xs.length<=4 ->
  s.good pg i (xs.map (.thing j))/\ ∃ l,l<=j/\s.run i (xs.map (.thing j))=⟨l,jc s.N j xs,s.wo,s.rs,s.lp⟩
 | [],s,i,hl,_,_,_=>⟨trivial,s.l,hl,by rw[m8];rfl⟩
 | x::xs,s,i,hl,hx,nd,l4=>by
  rw[Uc] at l4;rw[V5] at nd;obtain⟨a,l,b,c⟩:=gJ h0 h4 xs (s.next i (.thing j x)) (i+1) (T6 _) (λy m=>⟨(hx y (T7 _ m)).1,oH (hx y (T7 _ m)).2 λz=>nd.1 (z ▸ m)⟩) nd.2 (by show(mn s.N j x j).length+_<=4;unfold mn;rw[if_pos rfl,TX,UC];omega);refine⟨⟨⟨h0,h4,hl,hx x Ug,by omega⟩,qw (PN j (by omega)) (hx x Ug).1,a⟩,l,b,?_⟩;rw[T9,Sd.run,c,<- kj];rfl
theorem qf{pg:Tb}: ∀(xs:List (Str × Int))(s:Sd)(i:Nat),s.l=0->(∀ x∈xs,s.new x.1/\0<=x.2/\x.2<=999)->(xs.map (·.1)).Nodup->(s.N 0).length+xs.length<=4->s.wo.length+xs.length<=4 ->
  s.good pg i (xs.map λb=> .box b.1 b.2)/\s.run i (xs.map λb=> .box b.1 b.2)=⟨0,jc s.N 0 (xs.map (·.1)),s.wo++xs.map (·.2),s.rs,s.lp⟩
 | [],s,i,hl,_,_,_,_=>⟨trivial,by rw[UE,UE,UE,m8,Ui,Sd.run,<- hl]⟩
 | x::xs,s,i,hl,hx,nd,l4,w4=>by
  rw[Uc] at l4 w4;rw[T9,V5] at nd;obtain⟨h1,h2,h3⟩:=hx x Ug;obtain⟨a,c⟩:=qf (pg:=pg) xs (s.next i (.box x.1 x.2)) (i+1) rfl (λy m=>⟨⟨(hx y (T7 _ m)).1.1,oH (hx y (T7 _ m)).1.2 λz=>nd.1 (z ▸ VH m)⟩,(hx y (T7 _ m)).2⟩) nd.2 (by show(mn s.N 0 x.1 0).length+_<=4;unfold mn;rw[if_pos rfl,TX,UC];omega) (by show(s.wo++[x.2]).length+_<=4;rw[TX,UC];omega);refine⟨⟨⟨hl,h1,by omega,by omega,h2,h3⟩,⟨by simp[Ln.w],?_,by simp[Ln.w]⟩,a⟩,?_⟩
  . exact TN.mpr ⟨jV _ (by decide +kernel),TN.mpr ⟨bg h1.1,TN.mpr ⟨jG h2 (by omega),λ_ m=>nomatch m⟩⟩⟩
  . rw[T9,Sd.run,c,T9,T9,<- kj];show Sd.mk _ _ (s.wo++[x.2]++_) _ _=_;rw[TZ];rfl
theorem tD{pg:Tb}{R:List (List Rw)}(h4:R.length<=3){K:Nat}: ∀(xs:List Rw)(s:Sd)(i:Nat)(r0:List Rw),s.rs=R++[r0]->r0.length+xs.length<=30->s.lp.length+xs.length<=120->(∀ r∈xs,(∀ q∈dW r,iK pg s.N q)/\kL (dU r)/\ ∀ v e,r= .leap v e->v<=(K:Int)) ->
  s.good pg i (xs.map .row)/\ ∃ lp':List (Int × Int × Nat),(∀ q∈lp',q.2.2=R.length/\q.2.1<=(K:Int))/\lp'.length<=xs.length/\s.run i (xs.map .row)=⟨s.l,s.N,s.wo,R++[r0++xs],s.lp++lp'⟩
 | [],s,i,r0,e,_,_,_=>⟨trivial,[],λ_ m=>(nomatch m),by simp,by rw[Ui,Ui,<- e];rfl⟩
 | x::xs,s,i,r0,e,l30,ll,hx=>by
  rw[Uc] at l30 ll;obtain⟨h1,h2,h3⟩:=hx x Ug;have ls:eT i (s.rs.length - 1) x=eT i R.length x:=by rw[e];simp
  have l1:(eT i R.length x).length<=1:=by cases x<;>simp[eT]
  have e1:(s.next i (.row x)).rs=R++[r0++[x]]:=by
   show s.rs.dropLast++[s.rs.getLastD []++[x]]=_;rw[e];simp
  have e2:(s.next i (.row x)).lp=s.lp++eT i R.length x:=by
   show s.lp++eT i (s.rs.length - 1) x=_;rw[ls]
  obtain⟨a,lp',b1,b2,c⟩:=tD (pg:=pg) h4 (K:=K) xs (s.next i (.row x)) (i+1) (r0++[x]) e1 (by rw[TX,UC];omega) (by rw[e2,TX];omega) λr m=>hx r (T7 _ m);refine⟨⟨⟨by rw[e];simp,by rw[e,TX,UC];omega,by rw[e];simp;omega,h1,by omega⟩,h2,a⟩,eT i R.length x++lp',λq m=>?_,by rw[TX,Uc];omega,?_⟩
  . rcases Uz.mp m with m | m
    . cases x with
      | leap v e' =>
       rw[UD.mp m];exact⟨rfl,h3 v e' rfl⟩
      | _=>nomatch m
    . exact b1 q m
  . rw[T9,Sd.run,c,e2,TZ,TZ];rfl
noncomputable def yP(h:Str × List Rw):List Ln:= .hand h.1::h.2.map .row
theorem qG{pg:Tb}: ∀(hs:List (Str × List Rw))(s:Sd)(i:Nat),s.l<=4->(∀ h∈hs,s.new h.1/\h.2.length<=30/\ ∀ r∈h.2,(∀ N:Nat->List Str,N 0=s.N 0->N 1=s.N 1->N 2=s.N 2->N 3=s.N 3-> ∀ q∈dW r,iK pg N q)/\kL (dU r)/\ ∀ v e,r= .leap v e->v<=h.2.length)->(hs.map (·.1)).Nodup->(s.N 4).length+hs.length<=4->s.rs.length+hs.length<=4->s.lp.length<=30*s.rs.length->s.BL ->
  s.good pg i (hs.flatMap yP)/\ ∃ l lp',s.run i (hs.flatMap yP)=⟨l,jc s.N 4 (hs.map (·.1)),s.wo,s.rs++hs.map (·.2),lp'⟩/\(Sd.BL ⟨l,jc s.N 4 (hs.map (·.1)),s.wo,s.rs++hs.map (·.2),lp'⟩)
 | [],s,i,hl,_,_,_,_,_,lo=>⟨trivial,s.l,s.lp,by rw[UE,UE,m8,Ui];rfl,by rw[UE,UE,m8,Ui];exact lo⟩
 | h::hs,s,i,hl,hx,nd,n4,r4,ll,lo=>by
  rw[Uc] at n4 r4;rw[T9,V5] at nd;obtain⟨x1,x2,x3⟩:=hx h Ug;obtain⟨a,lp1,b1,b2,c⟩:=tD (pg:=pg) (R:=s.rs) (by omega) (K:=h.2.length) h.2 (s.next i (.hand h.1)) (i+1) [] rfl (by simpa using x2) (by show s.lp.length+_<=120;omega) λr m=>⟨(x3 r m).1 _ rfl rfl rfl rfl,(x3 r m).2⟩
  have lo1:Sd.BL ⟨4,mn s.N 4 h.1,s.wo,s.rs++[h.2],s.lp++lp1⟩:=λq m=>by
   rcases Uz.mp m with m | m
   . obtain⟨r,er,le⟩:=lo q m;exact⟨r,by show(s.rs++[h.2])[q.2.2]?=_;rw[Uq (TR.mp er).1];exact er,le⟩
   . obtain⟨e1,e2⟩:=b1 q m;exact⟨h.2,by show(s.rs++[h.2])[q.2.2]?=_;rw[e1];simp,e2⟩
  have c':(s.next i (.hand h.1)).run (i+1) (h.2.map .row)=⟨4,mn s.N 4 h.1,s.wo,s.rs++[h.2],s.lp++lp1⟩:=c;obtain⟨a2,l,lp',d1,d2⟩:=qG (pg:=pg) hs ⟨4,mn s.N 4 h.1,s.wo,s.rs++[h.2],s.lp++lp1⟩ (i+1+(h.2.map Ln.row).length) (T6 _) (λy m=>by
   obtain⟨y1,y2,y3⟩:=hx y (T7 _ m);exact⟨⟨y1.1,oH y1.2 λz=>nd.1 (z ▸ VH m)⟩,y2,y3⟩) nd.2 (by show(mn s.N 4 h.1 4).length+_<=4;unfold mn;rw[if_pos rfl,TX,UC];omega) (by show(s.rs++[h.2]).length+_<=4;rw[TX,UC];omega) (by show(s.lp++lp1).length<=30*(s.rs++[h.2]).length;rw[TX,TX,UC];omega) lo1
  refine⟨?_,l,lp',?_,?_⟩
  . rw[Uy,yP,Vf];refine⟨⟨hl,x1,by omega,by omega⟩,qw (by decide +kernel) x1.1,Sd.iz _ _ _ _ a ?_⟩;rw[c'];exact a2
  . rw[Uy,yP,Vf,Sd.run,Sd.jT,c',d1,T9,T9,kj,TZ];rfl
  . rw[T9,T9,<- kj];have:s.rs++h.2::hs.map (·.2)=s.rs++[h.2]++hs.map (·.2):=by simp
    rw[this];exact d2
def Pr.ls(p:Pr):List Ln:=(p.bs.map λb=>Ln.box b.1 b.2)++(p.s2.map (Ln.thing 1)++(p.s3.map (Ln.thing 2)++(p.s4.map (Ln.thing 3)++p.hs.flatMap yP)))
theorem Lu(bs:List (Str × Int)):gq ((bs.map (·.1)).map PV.str) ((bs.map (·.2)).map PV.int)=bs.map vy:=by
 induction bs with
 | nil=>rfl
 | cons b r ih=>show PV.tup [.str b.1,.int b.2]::gq _ _=_;rw[ih];rfl
theorem Ki(hs:List (Str × List Rw)):gq ((hs.map (·.1)).map PV.str) ((hs.map (·.2)).map aH)=hs.map bU:=by
 induction hs with
 | nil=>rfl
 | cons b r ih=>show PV.tup [.str b.1,aH b.2]::gq _ _=_;rw[ih];rfl
theorem Dh{L:List Str}{k:Nat}{r:Rw}(o:kD L k r): ∀ v e,r= .leap v e->v<=(k:Int):=λv e z=>by subst z;exact o.2.1
section
variable{pg:Tb}(T:cx pg)
include T
theorem Pr.fit{p:Pr}(o:p.Ok):Sd.good pg ⟨0,λ_=>[],[],[],[]⟩ 0 p.ls/\ ∃ s,Sd.run ⟨0,λ_=>[],[],[],[]⟩ 0 p.ls=s/\s.rs=p.hs.map (·.2)/\s.BL/\Bg s=p.v:=by
 obtain⟨L,hL,hr⟩:=o.rw;have nm:=o.nm;have nd:=o.nd;simp only[Xq] at nd;obtain⟨n1,⟨n2,⟨n3,⟨n4,n5,m4⟩,m3⟩,m2⟩,m1⟩:=nd;have k1: ∀ x∈p.bs.map (·.1),aL x:=λx m=>nm x (by simp[m])
 have k2: ∀ x∈p.s2,aL x:=λx m=>nm x (by simp[m]);have k3: ∀ x∈p.s3,aL x:=λx m=>nm x (by simp[m]);have k4: ∀ x∈p.s4,aL x:=λx m=>nm x (by simp[m]);have k5: ∀ x∈p.hs.map (·.1),aL x:=λx m=>nm x (by simp[m])
 obtain⟨a1,c1⟩:=qf (pg:=pg) p.bs ⟨0,λ_=>[],[],[],[]⟩ 0 rfl (λx m=>⟨⟨k1 _ (VH m),λ_ _=>by simp⟩,o.wo x m⟩) n1 (by simpa using o.l1) (by simpa using o.l1);have no1: ∀ x,x ∉ p.bs.map (·.1)-> ∀ q,q < 5->x ∉ jc (λ_=>[]) 0 (p.bs.map (·.1)) q:=λx h q _ m=>by
  unfold jc at m;split at m
  . exact h (by simpa using m)
  . nomatch m
 obtain⟨a2,l2,e2,c2⟩:=gJ (pg:=pg) (j:=1) (by decide) (by decide) p.s2 ⟨0,jc (λ_=>[]) 0 (p.bs.map (·.1)),[]++p.bs.map (·.2),[],[]⟩ (0+(p.bs.map λb=>Ln.box b.1 b.2).length) (Vp _) (λx m=>⟨k2 x m,no1 x λz=>m1 x z x (by simp[m]) rfl⟩) n2 (by show([]:List Str).length+_<=4;simpa using o.l2)
 have no2: ∀ x,x ∉ p.bs.map (·.1)->x ∉ p.s2-> ∀ q,q < 5->x ∉ jc (jc (λ_=>[]) 0 (p.bs.map (·.1))) 1 p.s2 q:=λx h h2 q hq m=>by
  unfold jc at m;split at m
  . exact h2 (by simpa using m)
  . exact no1 x h q hq m
 obtain⟨a3,l3,e3,c3⟩:=gJ (pg:=pg) (j:=2) (by decide) (by decide) p.s3 ⟨l2,jc (jc (λ_=>[]) 0 (p.bs.map (·.1))) 1 p.s2,[]++p.bs.map (·.2),[],[]⟩ (0+(p.bs.map λb=>Ln.box b.1 b.2).length+(p.s2.map (Ln.thing 1)).length) (by show l2<=2;omega) (λx m=>⟨k3 x m,no2 x (λz=>m1 x z x (by simp[m]) rfl) λz=>m2 x z x (by simp[m]) rfl⟩) n3 (by show([]:List Str).length+_<=4;simpa using o.l3)
 have no3: ∀ x,x ∉ p.bs.map (·.1)->x ∉ p.s2->x ∉ p.s3-> ∀ q,q < 5->x ∉ jc (jc (jc (λ_=>[]) 0 (p.bs.map (·.1))) 1 p.s2) 2 p.s3 q:=λx h h2 h3 q hq m=>by
  unfold jc at m;split at m
  . exact h3 (by simpa using m)
  . exact no2 x h h2 q hq m
 obtain⟨a4,l4,e4,c4⟩:=gJ (pg:=pg) (j:=3) (by decide) (by decide) p.s4 ⟨l3,jc (jc (jc (λ_=>[]) 0 (p.bs.map (·.1))) 1 p.s2) 2 p.s3,[]++p.bs.map (·.2),[],[]⟩ (0+(p.bs.map λb=>Ln.box b.1 b.2).length+(p.s2.map (Ln.thing 1)).length+(p.s3.map (Ln.thing 2)).length) (by show l3<=3;omega) (λx m=>⟨k4 x m,no3 x (λz=>m1 x z x (by simp[m]) rfl) (λz=>m2 x z x (by simp[m]) rfl) λz=>m3 x z x (by simp[m]) rfl⟩) n4 (by show([]:List Str).length+_<=4;simpa using o.l4)
 have no4: ∀ x,x ∉ p.bs.map (·.1)->x ∉ p.s2->x ∉ p.s3->x ∉ p.s4-> ∀ q,q < 5->x ∉ jc (jc (jc (jc (λ_=>[]) 0 (p.bs.map (·.1))) 1 p.s2) 2 p.s3) 3 p.s4 q:=λx h h2 h3 h4 q hq m=>by
  unfold jc at m;split at m
  . exact h4 (by simpa using m)
  . exact no3 x h h2 h3 q hq m
 obtain⟨a5,l5,lp5,c5,d5⟩:=qG (pg:=pg) p.hs ⟨l4,jc (jc (jc (jc (λ_=>[]) 0 (p.bs.map (·.1))) 1 p.s2) 2 p.s3) 3 p.s4,[]++p.bs.map (·.2),[],[]⟩ (0+(p.bs.map λb=>Ln.box b.1 b.2).length+(p.s2.map (Ln.thing 1)).length+(p.s3.map (Ln.thing 2)).length+(p.s4.map (Ln.thing 3)).length) (by show l4<=4;omega) (λh m=>by
  obtain⟨h30,hq⟩:=hr h m;have mm:=VH (f:=Prod.fst) m;refine⟨⟨k5 _ mm,no4 _ (λz=>m1 _ z _ (by simp only[Uz];exact .inr (.inr (.inr mm))) rfl) (λz=>m2 _ z _ (by simp only[Uz];exact .inr (.inr mm)) rfl) (λz=>m3 _ z _ (by simp only[Uz];exact .inr mm) rfl) λz=>m4 _ z _ mm rfl⟩,h30,λr mr=>?_⟩;obtain⟨q1,q2⟩:=hq r mr;refine⟨λN z0 z1 z2 z3=>LG T q1 h30 ?_ hL,pY q1 h30 q2 hL k1 k2 k3 k4,Dh q1⟩;rw[z0,z1,z2,z3];exact q2) n5 (by show([]:List Str).length+_<=4;simpa using o.l5) (by show 0+_<=4;have:=o.l5;omega) (Vp _) (λq m=>nomatch m)
 refine⟨?_,_,?_,?_,d5,?_⟩
 . unfold Pr.ls;refine Sd.iz _ _ _ _ a1 ?_;rw[c1];refine Sd.iz _ _ _ _ a2 ?_;rw[c2];refine Sd.iz _ _ _ _ a3 ?_;rw[c3];refine Sd.iz _ _ _ _ a4 ?_;rw[c4];exact a5
 . unfold Pr.ls;rw[Sd.jT,c1,Sd.jT,c2,Sd.jT,c3,Sd.jT,c4,c5]
 . rfl
 . show PV.tup [.tup (gq ((p.bs.map (·.1)).map PV.str) ((p.bs.map (·.2)).map PV.int)),.tup (p.s2.map PV.str),.tup (p.s3.map PV.str),.tup (p.s4.map PV.str),.tup (gq ((p.hs.map (·.1)).map PV.str) ((p.hs.map (·.2)).map aH))]=_
   rw[Lu,Ki];rfl
theorem Pr.read{p:Pr}(o:p.Ok)(k:Nat){H:PH}{n0:Nat}(h0:H[n0]?=TK (.lst (p.ls.map aO))):run pg (k+12) "read" [.ref n0] H= .ok p.v H:=by
 obtain⟨g,s,e,h1,h2,h3⟩:=Pr.fit T o;rw[<- h3];exact FN T k h0 e g (by rw[h1];intro z;exact o.ne (List.map_eq_nil_iff.mp z)) (by rw[h1,TV];exact o.l5) h2
end
theorem qx(a b c:Str):a++b++c=a++(b++c):=by
 show Str.mk (a.cps++b.cps++c.cps)=Str.mk (a.cps++(b.cps++c.cps));rw[XX]
theorem m7{s x:Str}: ∀{r:List Str},r≠[]->VF s (x::r)=x++s++VF s r
 | [],h=>absurd rfl h
 | _::_,_=>rfl
theorem Bn{s:Str}: ∀{A B:List Str},A≠[]->B≠[]->VF s (A++B)=VF s A++s++VF s B
 | [],_,h,_=>absurd rfl h
 | [a],B,_,h=>by rw[List.singleton_append,m7 h];rfl
 | a::b::r,B,_,h=>by
  rw[Vf,m7 (by simp),Bn (A:=b::r) (by simp) h,m7 (x:=a) (r:=b::r) (by simp)];simp only[qx]
theorem BR{A B:List Str}(ha:A≠[])(hb:B≠[]):jn (A++B)=jn [jn A,jn B]:=by
 rw[iD,iD,iD,iD,Bn ha hb];rfl
theorem iG(x:Str):jn [x]=x:=by rw[iD];rfl
theorem rC{x:Str}{B:List Str}(hb:B≠[]):jn (x::B)=jn [x,jn B]:=by
 have:=BR (A:=[x]) (B:=B) (by simp) hb;rw[iG] at this;exact this
theorem oY: ∀(x:Str)(ps:List (List Str)),(∀ p∈ps,p≠[])->jn (x::ps.map jn)=jn (x::ps.flatMap id)
 | x,[],_=>rfl
 | x,p::ps,h=>by
  have hp:=h p Ug;have ih:=oY (jn p) ps λq m=>h q (T7 _ m);rw[T9,Uy,rC (B:=jn p::ps.map jn) (by simp),ih,rC (B:=id p++ps.flatMap id) (by cases p with | nil=>exact absurd rfl hp | cons=>simp)];congr 1;cases ps with
  | nil=>rw[Vg,Ui,iG];rfl
  | cons q r =>
   have hq:=h q (by simp)
   have ne:(q::r).flatMap id≠[]:=by rw[Uy];cases q with | nil=>exact absurd rfl hq | cons=>simp
   rw[rC ne,<- BR hp ne];rfl
theorem qW{ws:List Str}(h: ∀ w∈ws,w.length<=30)(l:ws.length<=20):(jn ws).length<=620:=by
 have:=vS ws h;rw[iD];omega
theorem Cb{ss:List Str}(h: ∀ s∈ss,s.length<=1000)(l:ss.length<=100):aa7 (TU " ") ss=true:=by
 refine PyProof.Rows.joinOk_of_weight ?_ (by decide +kernel);have:(ss.map (·.length)).sum<=1000*ss.length:=by
  clear l
  induction ss with
  | nil=>simp
  | cons a r ih =>
   have h1:=h a Ug
   have h2:=ih λs m=>h s (T7 _ m)
   rw[T9,List.sum_cons,Uc];omega
 omega
theorem wK: ∀ e:Sm,aK e≠[]
 | .num _=>by simp[aK]
 | .of _=>by simp[aK]
 | .un _=>by simp[aK]
 | .bin _ _ _=>by simp[aK]
theorem P8(q:Bo): ¬ q.w= "num" /\ ¬ q.w= "of" /\q.w.length<=30:=by cases q<;>decide +kernel
section
variable{pg:Tb}(T:cx pg)
include T
theorem nX(k:Nat){w:Str}(w1: ¬ w= "num")(w2: ¬ w= "of")(w3:w.length<=30){cs:List Sm}(ne:cs≠[])(lc2:cs.length<=2)(lj: ∀ c∈cs,(jn (aK c)).length<=1000)(ih: ∀ c∈cs,∀ H,run pg k "shown_sum" [cz c] H= .ok (.str (jn (aK c))) H)(H:PH) :
  run pg (k+1) "shown_sum" [.tup (.str w::cs.map cz)] H= .ok (.str (jn (w::cs.flatMap aK))) H:=by
 have lc:P3.jD ⟨TL,cs.map cz⟩ (bL 1 (gN 1) aV (ag "shown_sum" (a1 (aa 1))) (run pg k) [TK (.tup (.str w::cs.map cz))]) (cs.map cz) [] (H++[.lst [.str w]])= .ok (cs.map λa=> .str (jn (aK a))) (H++[.lst [.str w]]):=by
  refine(cO (α :=Sm) (g:=cz) rfl cs [] (f:=λa=>TK (.str (jn (aK a)))) (λc mc=>?_) (by simp;omega)).trans (by rw[UU,Vm]);have i1:=ih c mc (H++[.lst [.str w]]);generalize H++[PO.lst [.str w]]=X at i1 ⊢;simp? [i1]
 have e1:jn (w::cs.flatMap aK)=jn (w::cs.map λa=>jn (aK a)):=by
  have:=oY w (cs.map aK) λp m=>by obtain⟨c,_,rfl⟩:=Vb.mp m;exact wK c
  rw[VB,aaJ] at this;exact this.symm
 have jo:aa7 (TU " ") (w::cs.map λa=>jn (aK a))=true:=Cb (TN.mpr ⟨by omega,λs m=>by obtain⟨c,mc,rfl⟩:=Vb.mp m;exact lj c mc⟩) (by simp;omega);have jr: ∀ n g,g[n]?=TK (.lst (.str w::cs.map λa=> .str (jn (aK a))))->jd (.str " ") [.ref n] g= .ok (.str (jn (w::cs.map λa=>jn (aK a)))) g:=λn g e=>vo (ss:=w::cs.map λa=>jn (aK a)) (by rw[e,T9,VB];rfl) jo;have cut:dX (.str w::cs.map cz) (TK 1) TL=cs.map cz:=P3.eV (by decide);have hl:(cs.map cz).length<=2:=by rw[TV];exact lc2
 have hl2:(cs.map λa=>PV.str (jn (aK a))).length<=2:=by rw[TV];exact lc2
 rw[run_eq T.ik rfl,e1];generalize cs.map cz=xs at lc cut hl ⊢;generalize (cs.map λa=>PV.str (jn (aK a)))=ys at lc jr hl2 ⊢;have nl:CC ys (H++[PO.lst [.str w]])= .ok (.ref (H.length+1)) (H++[PO.lst [.str w],.lst ys]):=(iF (by omega)).trans (by simp);have ad:aA (.ref H.length) (.ref (H.length+1)) (H++[PO.lst [.str w],.lst ys])= .ok (.ref (H.length+2)) (H++[PO.lst [.str w],.lst ys,.lst (.str w::ys)]):=(gE (xs:=[.str w]) (ys:=ys) (by simp) (by simp) (by simp;omega)).trans (by simp);have jr':=jr (H.length+2) (H++[PO.lst [.str w],.lst ys,.lst (.str w::ys)]) (by simp);have st:P3.settle H (.str (jn (w::cs.map λa=>jn (aK a)))) (H++[PO.lst [.str w],.lst ys,.lst (.str w::ys)])= .ok (.str (jn (w::cs.map λa=>jn (aK a)))) H:=dc rfl;simp? [dj,fH,w1,w2,cut,lc,↓nl,↓ad,nP isJ,↓jr',st]
theorem eN: ∀(e:Sm)(k:Nat)(H:PH),e.ok->e.cn<=12->e.dp<=k->run pg k "shown_sum" [cz e] H= .ok (.str (jn (aK e))) H
 | .num n,0,H,_,_,hd=>by simp[Sm.dp] at hd
 | .of x,0,H,_,_,hd=>by simp[Sm.dp] at hd
 | .un a,0,H,_,_,hd=>by simp[Sm.dp] at hd
 | .bin q a b,0,H,_,_,hd=>by simp[Sm.dp] at hd
 | .num n,k+1,H,o,_,_=>by
  have st: ∀ g,cU [.int n] g= .ok (.str (aN n)) g:=λg=>pj o.1 (by have:=o.2;omega);rw[run_eq T.ik rfl,aK,iG];simp? [cz,dj,fH,st]
 | .of x,k+1,H,o,_,_=>by
  rw[run_eq T.ik rfl,aK,iG];simp? [cz,dj,fH,uV]
 | .un a,k+1,H,o,hc,hd=>by
  have c9:a.cn<=11:=by simp[Sm.cn] at hc;omega
  refine(nX T k (w:= "not") (by decide +kernel) (by decide +kernel) (by decide +kernel) (cs:=[a]) (by simp) (by simp) (λc m=>?_) (λc m H=>?_) H).trans (by rw[aK,Uy,Vg,Ui])
  . rw[UD.mp m];have:=qW (λw m=>(dB (e:=a) o w m).2) (by rw[bR];omega);omega
  . rw[UD.mp m];exact eN a k H o (by omega) (by simp[Sm.dp] at hd;omega)
 | .bin q a b,k+1,H,o,hc,hd=>by
  have c9:a.cn+b.cn<=11:=by simp[Sm.cn] at hc;omega
  have d9:a.dp<=k/\b.dp<=k:=by simp[Sm.dp] at hd;omega
  obtain⟨b1,b2,b3⟩:=P8 q;refine(nX T k (w:=q.w) b1 b2 b3 (cs:=[a,b]) (by simp) (by simp) (λc m=>?_) (λc m H=>?_) H).trans (by rw[aK,Uy,Uy,Vg,Ui])
  . have hc:c.ok/\c.cn<=11:=by
     simp only[Uh,UK,or_false] at m;rcases m with rfl | rfl
     . exact⟨o.1,by omega⟩
     . exact⟨o.2,by omega⟩
    have:=qW (λw m=>(dB (e:=c) hc.1 w m).2) (by rw[bR];omega);omega
  . simp only[Uh,UK,or_false] at m;rcases m with rfl | rfl
    . exact eN c k H o.1 (by omega) d9.1
    . exact eN c k H o.2 (by omega) d9.2
end
def RM:MS:=(ax (aq aA (aa 1) (ag "_law_sum_words" (a1 (aa 2)))) (gN 1))
section
variable{pg:Tb}(T:cx pg)
include T
theorem w6(k:Nat){H:PH}{t:Option PV}{xs0:List PV}: ∀(cs:List Sm),(∀ c∈cs,∀ X:PH,∃ G n,run pg k "_law_sum_words" [cz c] X= .ok (.ref n) (X++G)/\X.length<=n/\(X++G)[n]?=TK (.lst ((aK c).map PV.str)))-> ∀(acc:List Str)(G:PH)(n:Nat)(e2:Option PV),H.length<=n->(H++G)[n]?=TK (.lst (acc.map PV.str))->acc.length+(cs.flatMap aK).length<=100 ->
  ∃ G' n' f2,bh ⟨TL,xs0⟩ (bc (gN 2) RM (run pg k)) (cs.map cz) [t,TK (.ref n),e2] (H++G)= .ok (.nx [t,TK (.ref n'),f2]) (H++G')/\H.length<=n'/\(H++G')[n']?=TK (.lst ((acc++cs.flatMap aK).map PV.str))
 | [],_,acc,G,n,e2,hn,e,_=>⟨G,n,e2,dS,hn,by rw[Vg,Ui];exact e⟩
 | c::cs,ih,acc,G,n,e2,hn,e,l=>by
  rw[Uy,TX] at l;obtain⟨G1,n1,a1',a2',a3'⟩:=ih c Ug (H++G);have ad:aA (.ref n) (.ref n1) (H++G++G1)= .ok (.ref (H++G++G1).length) (H++G++G1++[.lst (acc.map PV.str++(aK c).map PV.str)]):=gE (cJ e) a3' (by rw[TV,TV];omega);have hl:H.length<=(H++G++G1).length:=by simp
  obtain⟨G',n',f2,b1,b2,b3⟩:=w6 k (t:=t) (xs0:=xs0) cs (λc m=>ih c (T7 _ m)) (acc++aK c) (G++G1++[.lst ((acc++aK c).map PV.str)]) (H++G++G1).length (TK (cz c)) hl (by
   rw[<- TZ,<- TZ];exact aM) (by rw[TX];omega)
  refine⟨G',n',f2,?_,b2,by rw[Uy,<- TZ];exact b3⟩;rw[<- US] at ad;rw[<- TZ,<- TZ] at b1;generalize H++G++G1++[PO.lst ((acc++aK c).map PV.str)]=Z at ad b1;have st:bc (gN 2) RM (run pg k) (cz c) [t,TK (.ref n),e2] (H++G)= .ok (.nx [t,TK (.ref (H++G++G1).length),TK (cz c)]) Z:=by
   generalize H++G++G1=Y at a1' ad ⊢;generalize H++G=Y0 at a1' ⊢;simp? [RM,a1',ad]
  rw[T9,bW,st,aF,aU];exact b1
theorem xE(k:Nat){w:Str}(w1: ¬ w= "num")(w2: ¬ w= "of"){cs:List Sm}(ih: ∀ c∈cs,∀ X:PH,∃ G n,run pg k "_law_sum_words" [cz c] X= .ok (.ref n) (X++G)/\X.length<=n/\(X++G)[n]?=TK (.lst ((aK c).map PV.str)))(l:(cs.flatMap aK).length<=50)(H:PH) :
  ∃ G n,run pg (k+1) "_law_sum_words" [.tup (.str w::cs.map cz)] H= .ok (.ref n) (H++G)/\H.length<=n/\(H++G)[n]?=TK (.lst ((w::cs.flatMap aK).map PV.str)):=by
 obtain ⟨G,n,f2,a1',a2',a3'⟩:=w6 T k (H:=H) (t:=TK (.tup (.str w::cs.map cz))) (xs0:=cs.map cz) cs ih [w] [.lst [.str w]] H.length TL (T6 _) aM (by rw [UC];omega);refine ⟨G,n,?_,a2',a3'⟩;have cut:dX (.str w::cs.map cz) (TK 1) TL=cs.map cz:=P3.eV (by decide);have no: ∀ g,hI (.str w) (.tup [.str "num",.str "of"]) g= .ok (.bl false) g:=λg=>(xI (ss:=["num", "of"])).trans (by rw [decide_eq_false (by simp [w1,w2])]);have st:P3.settle H (.ref n) (H++G)= .ok (.ref n) (H++G):=dC rfl;rw [run_eq T.dE rfl];show fin H (bT (run pg k) [TK (.tup (.str w::cs.map cz)),TL,TL] H)=_;generalize cs.map cz=xs at *;refine YM (congrArg (fin H) (a₂ := .ok (.rt (.ref n)) (H++G)) ?_) (fh.trans st);unfold bT;refine (aD (e1:=[TK (.tup (.str w::xs)),TL,TL]) (h1:=H) ?_).trans ?_
 . simp? [no]
 refine(aD (e1:=[TK (.tup (.str w::xs)),TK (.ref H.length),TL]) (h1:=H++[.lst [.str w]]) ?_).trans ?_
 . simp? [UE]
 refine(aD (e1:=[TK (.tup (.str w::xs)),TK (.ref n),f2]) (h1:=H++G) ?_).trans ?_
 . have it:ef (oZ (aa 0) (cH (eI 1)) cG) (run pg k) [TK (.tup (.str w::xs)),TK (.ref H.length),TL] (H++[.lst [.str w]])= .ok ⟨TL,xs⟩ (H++[.lst [.str w]]):=by
    simp? [cut]
   rw[ee,it,aF,c7];exact a1'
 . simp? [UE]
theorem eg: ∀(e:Sm)(k:Nat),e.ok->e.cn<=12->e.dp<=k-> ∀ H:PH,∃ G n,run pg k "_law_sum_words" [cz e] H= .ok (.ref n) (H++G)/\H.length<=n/\(H++G)[n]?=TK (.lst ((aK e).map PV.str))
 | .num n,0,_,_,hd=>by simp[Sm.dp] at hd
 | .of x,0,_,_,hd=>by simp[Sm.dp] at hd
 | .un a,0,_,_,hd=>by simp[Sm.dp] at hd
 | .bin q a b,0,_,_,hd=>by simp [Sm.dp] at hd
 | .num n,k+1,o,_,_=>λH=>by
  have st: ∀ g,cU [.int n] g= .ok (.str (aN n)) g:=λg=>pj o.1 (by have:=o.2;omega);have no: ∀ g,hI (.str "num") (.tup [.str "num",.str "of"]) g= .ok (.bl true) g:=λg=>(xI (ss:=["num", "of"])).trans (by rw [decide_eq_true (by simp)]);refine ⟨[.lst [.str (aN n)]],H.length,?_,T6 _,aM⟩;rw [run_eq T.dE rfl];simp? [cz,bP,bT,no,st];exact dC rfl
 | .of x,k+1,o,_,_=>λH=>by
  have no: ∀ g,hI (.str "of") (.tup [.str "num",.str "of"]) g= .ok (.bl true) g:=λg=>(xI (ss:=["num", "of"])).trans (by rw [decide_eq_true (by simp)]);refine ⟨[.lst [.str x]],H.length,?_,T6 _,aM⟩;rw [run_eq T.dE rfl];simp? [cz,bP,bT,no,uV];exact dC rfl
 | .un a,k+1,o,hc,hd=>λH=>by
  have c9:a.cn<=11:=by simp[Sm.cn] at hc;omega
  have r:=xE T k (w:= "not") (by decide +kernel) (by decide +kernel) (cs:=[a]) (λc m=>by rw[UD.mp m];exact eg a k o (by omega) (by simp[Sm.dp] at hd;omega)) (by rw[Uy,Vg,Ui,bR];omega) H;rw[Uy,Vg,Ui] at r;exact r
 | .bin q a b,k+1,o,hc,hd=>λH=>by
  have c9:a.cn+b.cn<=11:=by simp[Sm.cn] at hc;omega
  have d9:a.dp<=k/\b.dp<=k:=by simp[Sm.dp] at hd;omega
  obtain⟨b1,b2,b3⟩:=P8 q;have r:=xE T k (w:=q.w) b1 b2 (cs:=[a,b]) (λc m=>by
   simp only[Uh,UK,or_false] at m;rcases m with rfl | rfl
   . exact eg c k o.1 (by omega) d9.1
   . exact eg c k o.2 (by omega) d9.2) (by rw[Uy,Uy,Vg,Ui,TX,bR,bR];omega) H
  rw[Uy,Uy,Vg,Ui] at r;exact r
end
def pC(q:Str × PV × List Str):Prop:=(q.1= "sum" /\ ∃ e,kr e/\q.2.1=cz e/\q.2.2=aK e)\/(¬ q.1= "sum" /\((∃ x:Str,q.2.1= .str x/\q.2.2=[x]/\x.length<=30)\/ ∃ v:Int,0<=v/\v<=1000/\q.2.1= .int v/\q.2.2=[aN v]))
theorem O4{L:List Str}{k:Nat}{s1 s2 s3 s4:List Str}{r:Rw}(ok:kD L k r)(k30:k<=30)(nm:pb s1 s2 s3 s4 r)(hL: ∀ x∈L,aL x)(h1: ∀ x∈s1,aL x)(h2: ∀ x∈s2,aL x)(h3: ∀ x∈s3,aL x)(h4: ∀ x∈s4,aL x): ∀ q∈dW r,pC q:=by
 have one: ∀{a},pC a-> ∀ q∈[a],pC q:=λh=>TN.mpr ⟨h,λ_ m=>nomatch m⟩;have two: ∀{a b},pC a->pC b-> ∀ q∈[a,b],pC q:=λh h'=>TN.mpr ⟨h,one h'⟩;have sm: ∀{e},kr e->pC ("sum",cz e,aK e):=λo=> .inl ⟨rfl,_,o,rfl,rfl⟩;have st: ∀{a x:Str},a≠ "sum" ->aL x->pC (a,.str x,[x]):=λn o=> .inr ⟨n,.inl ⟨_,rfl,rfl,by have:=o.2.1;omega⟩⟩;have nu: ∀{a:Str}{v:Int},a≠ "sum" ->0<=v->v<=1000->pC (a,.int v,[aN v]):=λn h0 h9=> .inr ⟨n,.inr ⟨_,h0,h9,rfl,rfl⟩⟩;cases r with
 | let_ x e=>exact two (st (by decide +kernel) (hL x ok.1)) (sm ok.2)
 | leap v e=>exact two (nu (by decide +kernel) ok.1 (by have:=ok.2.1;omega)) (sm ok.2.2)
 | take l=>exact one (st (by decide +kernel) (h2 l nm))
 | free l=>exact one (st (by decide +kernel) (h2 l nm))
 | get x b=>exact two (st (by decide +kernel) (hL x ok)) (st (by decide +kernel) (h1 b nm))
 | put b e=>exact two (st (by decide +kernel) (h1 b nm)) (sm ok)
 | send l e=>exact two (st (by decide +kernel) (h3 l nm)) (sm ok)
 | fetch x l=>exact two (st (by decide +kernel) (hL x ok)) (st (by decide +kernel) (h3 l nm))
 | say d e=>exact two (st (by decide +kernel) (h4 d nm)) (sm ok)
 | clock x=>exact one (st (by decide +kernel) (hL x ok))
 | lot x v=>exact two (st (by decide +kernel) (hL x ok.1)) (nu (by decide +kernel) (by have:=ok.2.1;omega) ok.2.2)
 | hear x d=>exact two (st (by decide +kernel) (hL x ok)) (st (by decide +kernel) (h4 d nm))
theorem pC.ne{q:Str × PV × List Str}(t:pC q):q.2.2≠[]:=by
 rcases t with⟨_,e,_,_,h⟩ | ⟨_,⟨x,_,h,_⟩ | ⟨v,_,_,_,h⟩⟩
 . rw[h];exact wK e
 . rw[h];simp
 . rw[h];simp
theorem pC.len{q:Str × PV × List Str}(t:pC q):(jn q.2.2).length<=1000/\q.2.2.length<=12:=by
 rcases t with⟨_,e,o,_,h⟩ | ⟨_,⟨x,_,h,l⟩ | ⟨v,h0,h9,_,h⟩⟩
 . have:=qW (λw m=>(dB (e:=e) o.1 w m).2) (by rw[bR];have:=o.2.2;omega);rw[h,bR];exact⟨by omega,o.2.2⟩
 . rw[h,iG];exact⟨by omega,by simp⟩
 . rw[h,iG];have:=(cY h0 h9).2.1;exact⟨by omega,by simp⟩
theorem IF(e:Sm)(h:PH):cm [cz e,.ty "tuple"] h= .ok (.bl true) h:=by cases e<;>rfl
theorem NK(r:Rw):r.w.length<=30:=by cases r<;>(simp only[Rw.w];decide +kernel)
def O8:MS:=(aC (eM au aJ (aa 1) (ab (Na (mQ (aa 2) (eS "sum")) (ag "shown_sum" (a1 (aa 3))) (eB cU (a1 (aa 3)))) af)))
def Py:MS:=(cX (aX (eB cm (ab (aa 2) (ab (eC (.ty "tuple")) af)))) (ax (aq aA (aa 1) (ag "_law_sum_words" (a1 (aa 2)))) (gN 1)) (aC (eM au aJ (aa 1) (ab (eB cU (a1 (aa 2))) af))))
noncomputable def Dd(q:Str × PV × List Str):PV:= .tup [.str q.1,q.2.1]
section
variable{pg:Tb}(T:cx pg)
include T
theorem wR(k:Nat){H:PH}{t:Option PV}{xs0:List PV}: ∀(qs:List (Str × PV × List Str)),(∀ q∈qs,pC q)-> ∀(acc:List Str)(e2 e3:Option PV),acc.length+qs.length<=100 ->
  ∃ f2 f3,bh ⟨TL,xs0⟩ (bc (gT 2 (ao (gN 2) (ao (gN 3) bE))) O8 (run pg (k+5))) (qs.map Dd) [t,TK (.ref H.length),e2,e3] (H++[.lst (acc.map PV.str)])= .ok (.nx [t,TK (.ref H.length),f2,f3]) (H++[.lst ((acc++qs.map λq=>jn q.2.2).map PV.str)])
 | [],_,acc,e2,e3,_=>⟨e2,e3,by rw[UE,UE,Ui];exact dS⟩
 | q::qs,hq,acc,e2,e3,l=>by
  rw[Uc] at l;obtain⟨f2,f3,ih⟩:=wR k (H:=H) (t:=t) (xs0:=xs0) qs (λz m=>hq z (T7 _ m)) (acc++[jn q.2.2]) (TK (.str q.1)) (TK q.2.1) (by rw[TX,UC];omega);refine⟨f2,f3,?_⟩;have st:bc (gT 2 (ao (gN 2) (ao (gN 3) bE))) O8 (run pg (k+5)) (Dd q) [t,TK (.ref H.length),e2,e3] (H++[.lst (acc.map PV.str)])= .ok (.nx [t,TK (.ref H.length),TK (.str q.1),TK q.2.1]) (H++[.lst ((acc++[jn q.2.2]).map PV.str)]):=by
   have h0:(H++[PO.lst (acc.map PV.str)])[H.length]?=TK (.lst (acc.map PV.str)):=aM;have ap:au (.ref H.length) [.str (jn q.2.2)] (H++[PO.lst (acc.map PV.str)])= .ok .non (H++[.lst ((acc++[jn q.2.2]).map PV.str)]):=by
    rw[vA,h0,uh (by rw[TV];omega),Bt rfl,US];rfl
   rcases hq q Ug with⟨e0,e,o,e1,e2'⟩ | ⟨e0,⟨x,e1,e2',_⟩ | ⟨v,h0',h9,e1,e2'⟩⟩
   . have r1:=eN T e (k+5) (H++[.lst (acc.map PV.str)]) o.1 o.2.2 (by have:=o.2.1;omega);rw[<- e2'] at r1;rw[<- e1] at r1;generalize H++[PO.lst (acc.map PV.str)]=Y at *;simp? [Dd,O8,e0,h0,r1,↓ap]
   . rw[e2',iG] at ap ⊢;rw[show Dd q= .tup [.str q.1,.str x] by rw[Dd,e1],e1];generalize H++[PO.lst (acc.map PV.str)]=Y at *;simp? [O8,e0,h0,uV,↓ap]
   . rw[e2',iG] at ap ⊢;have sn: ∀ g,cU [.int v] g= .ok (.str (aN v)) g:=λg=>pj h0' (by omega);rw[show Dd q= .tup [.str q.1,.int v] by rw[Dd,e1],e1];generalize H++[PO.lst (acc.map PV.str)]=Y at *;simp? [O8,e0,h0,sn,↓ap]
  rw[T9,bW,st,aF,aU];refine ih.trans ?_;rw[TZ,T9];rfl
theorem qZ(k:Nat){H:PH}{x:Rw}(ok: ∀ q∈dW x,pC q):run pg (k+6) "shown_row" [bY x] H= .ok (.str (jn (dU x))) H:=by
 have lq:(dW x).length<=2:=by cases x<;>simp[dW]
 obtain⟨f2,f3,lp⟩:=wR T k (H:=H) (t:=TK (bY x)) (xs0:=(dW x).map Dd) (dW x) ok [x.w] TL TL (by simp;omega);have kg:=B5 x;have e1:jn (dU x)=jn (x.w::(dW x).map λq=>jn q.2.2):=by
  have:=oY x.w ((dW x).map (·.2.2)) λp m=>by obtain⟨q,mq,rfl⟩:=Vb.mp m;exact(ok q mq).ne
  rw[VB,aaJ] at this;rw[uJ];exact this.symm
 have jo:aa7 (TU " ") (x.w::(dW x).map λq=>jn q.2.2)=true:=Cb (TN.mpr ⟨by have:=NK x;omega,λs m=>by obtain⟨q,mq,rfl⟩:=Vb.mp m;exact(ok q mq).len.1⟩) (by simp;omega);have jr:jd (.str " ") [.ref H.length] (H++[.lst (([x.w]++(dW x).map λq=>jn q.2.2).map PV.str)])= .ok (.str (jn (x.w::(dW x).map λq=>jn q.2.2))) (H++[.lst (([x.w]++(dW x).map λq=>jn q.2.2).map PV.str)]):=vo (ss:=x.w::(dW x).map λq=>jn q.2.2) aM jo;have zp:((dW x).map λq=>PV.str q.1).zip x.ps=(dW x).map λq=>(PV.str q.1,q.2.1):=by rw [vX,List.zip_map']
 have cut:dX (.str x.w::x.ps) (TK 1) TL=x.ps:=P3.eV (by decide);rw [run_eq T.sR rfl,e1];refine YM (congrArg (fin H) (a₂ := .ok (.rt (.str (jn (x.w::(dW x).map λq=>jn q.2.2)))) (H++[.lst (([x.w]++(dW x).map λq=>jn q.2.2).map PV.str)])) ?_) (fh.trans (dc rfl));show iJ (run pg (k+5)) [TK (bY x),TL,TL,TL] H=_;unfold iJ;refine (aD (e1:=[TK (bY x),TK (.ref H.length),TL,TL]) (h1:=H++[.lst ([x.w].map PV.str)]) ?_).trans ?_
 . simp? [bY]
 refine(aD (e1:=[TK (bY x),TK (.ref H.length),f2,f3]) (h1:=H++[.lst (([x.w]++(dW x).map λq=>jn q.2.2).map PV.str)]) ?_).trans ?_
 . have it:Dz (nR ba (eX 0 0)) (oZ (aa 0) (cH (eI 1)) cG) (run pg (k+5)) [TK (bY x),TK (.ref H.length),TL,TL] (H++[.lst ([x.w].map PV.str)])= .ok ⟨TL,(dW x).map Dd⟩ (H++[.lst ([x.w].map PV.str)]):=by
    generalize H++[PO.lst ([x.w].map PV.str)]=Y;simp? [bY,kg,cut,zp,VB];rfl
   rw[ee,it,aF,c7];exact lp
 . generalize H++[PO.lst (([x.w]++(dW x).map λq=>jn q.2.2).map PV.str)]=Y at jr ⊢;simp? [nP isJ,jr]
end
theorem MK{H G:PH}{n:Nat}{o:PO}(h:H.length<=n):(H++G).set n o=H++G.set (n - H.length) o:=Vr _ _ h
section
variable{pg:Tb}(T:cx pg)
include T
theorem wt(k:Nat){H:PH}{t:Option PV}{xs0:List PV}: ∀(qs:List (Str × PV × List Str)),(∀ q∈qs,pC q)-> ∀(acc:List Str)(G:PH)(n:Nat)(e2:Option PV),H.length<=n->(H++G)[n]?=TK (.lst (acc.map PV.str))->acc.length+(qs.flatMap (·.2.2)).length<=100 ->
  ∃ G' n' f2,bh ⟨TL,xs0⟩ (bc (gN 2) Py (run pg (k+5))) (qs.map (·.2.1)) [t,TK (.ref n),e2] (H++G)= .ok (.nx [t,TK (.ref n'),f2]) (H++G')/\(H++G')[n']?=TK (.lst ((acc++qs.flatMap (·.2.2)).map PV.str))
 | [],_,acc,G,n,e2,hn,e,_=>⟨G,n,e2,dS,by rw[Vg,Ui];exact e⟩
 | q::qs,hq,acc,G,n,e2,hn,e,l=>by
  rw[Uy,TX] at l;obtain⟨G1,n1,h1,h2,st⟩: ∃ G1 n1,H.length<=n1/\(H++G1)[n1]?=TK (.lst ((acc++q.2.2).map PV.str))/\bc (gN 2) Py (run pg (k+5)) q.2.1 [t,TK (.ref n),e2] (H++G)= .ok (.nx [t,TK (.ref n1),TK q.2.1]) (H++G1):=by
   have one: ∀ s:Str,q.2.2=[s]->(H++G.set (n - H.length) (.lst ((acc++q.2.2).map PV.str)))[n]?=TK (.lst ((acc++q.2.2).map PV.str))/\au (.ref n) [.str s] (H++G)= .ok .non (H++G.set (n - H.length) (.lst ((acc++q.2.2).map PV.str))):=λs es=>by
    have hl:=(TR.mp e).1;rw[<- MK hn];refine⟨Us hl,?_⟩;rw[vA,e,uh (by rw[TV];omega),es,US];rfl
   rcases hq q Ug with⟨e0,s,o,e1,e2'⟩ | ⟨e0,⟨x,e1,e2',_⟩ | ⟨v,h0',h9,e1,e2'⟩⟩
   . obtain⟨G1,n1,a1',a2',a3'⟩:=eg T s (k+5) o.1 o.2.2 (by have:=o.2.1;omega) (H++G);rw[<- e2'] at a3';have ad:aA (.ref n) (.ref n1) (H++G++G1)= .ok (.ref (H++G++G1).length) (H++G++G1++[.lst (acc.map PV.str++q.2.2.map PV.str)]):=gE (cJ e) a3' (by rw[TV,TV];omega);rw[<- US] at ad;refine⟨G++G1++[.lst ((acc++q.2.2).map PV.str)],(H++G++G1).length,by simp,by rw[<- TZ,<- TZ];exact aM,?_⟩;rw[<- TZ,<- TZ];generalize H++G++G1++[PO.lst ((acc++q.2.2).map PV.str)]=Z at ad ⊢;rw[e1];have is:=IF s (H++G);generalize H++G++G1=Y at a1' ad ⊢;generalize H++G=Y0 at a1' is ⊢;simp? [Py,is,a1',ad]
   . obtain⟨o1,o2⟩:=one x e2';refine⟨_,n,hn,o1,?_⟩;rw[e1];generalize H++G.set (n - H.length) (.lst ((acc++q.2.2).map PV.str))=Z at o2 ⊢;generalize H++G=Y at e o2 ⊢;simp? [Py,K5,e,uV,↓o2]
   . obtain⟨o1,o2⟩:=one (aN v) e2';have sn: ∀ g,cU [.int v] g= .ok (.str (aN v)) g:=λg=>pj h0' (by omega);refine⟨_,n,hn,o1,?_⟩;rw[e1];generalize H++G.set (n - H.length) (.lst ((acc++q.2.2).map PV.str))=Z at o2 ⊢;generalize H++G=Y at e o2 ⊢;simp? [Py,Kx,e,sn,↓o2]
  obtain⟨G',n',f2,b1,b3⟩:=wt k (t:=t) (xs0:=xs0) qs (λz m=>hq z (T7 _ m)) (acc++q.2.2) G1 n1 (TK q.2.1) h1 h2 (by rw[TX];omega);refine⟨G',n',f2,?_,by rw[Uy,<- TZ];exact b3⟩;rw[T9,bW,st,aF,aU];exact b1
theorem uj(k:Nat){H:PH}{x:Rw}(ok: ∀ q∈dW x,pC q)(lw:kL (dU x)):run pg (k+6) "_law_row_line" [bY x] H= .ok (.str (jn (dU x))) H:=by
 have lq:((dW x).flatMap (·.2.2)).length+1<=20:=by have:=lw.2.2;rw[uJ,Uc] at this;exact this
 obtain⟨G,n,f2,lp,en⟩:=wt T k (H:=H) (t:=TK (bY x)) (xs0:=(dW x).map (·.2.1)) (dW x) ok [x.w] [.lst ([x.w].map PV.str)] H.length TL (T6 _) aM (by rw[UC];omega)
 rw[show[x.w]++(dW x).flatMap (·.2.2)=dU x by rw[uJ];rfl] at en
 have jr:jd (.str " ") [.ref n] (H++G)= .ok (.str (jn (dU x))) (H++G):=vo en (Cb (λs m=>by have:=(lw.2.1 s m).2;omega) (by have:=lw.2.2;omega));have cut:dX (.str x.w::x.ps) (TK 1) TL=x.ps:=P3.eV (by decide);rw [run_eq T.l7 rfl];refine YM (congrArg (fin H) (a₂ := .ok (.rt (.str (jn (dU x)))) (H++G)) ?_) (fh.trans (dc rfl));show dZ (run pg (k+5)) [TK (bY x),TL,TL] H=_;unfold dZ;refine (aD (e1:=[TK (bY x),TK (.ref H.length),TL]) (h1:=H++[.lst ([x.w].map PV.str)]) ?_).trans ?_
 . simp? [bY]
 refine(aD (e1:=[TK (bY x),TK (.ref n),f2]) (h1:=H++G) ?_).trans ?_
 . have it:ef (oZ (aa 0) (cH (eI 1)) cG) (run pg (k+5)) [TK (bY x),TK (.ref H.length),TL] (H++[.lst ([x.w].map PV.str)])= .ok ⟨TL,(dW x).map (·.2.1)⟩ (H++[.lst ([x.w].map PV.str)]):=by
    generalize H++[PO.lst ([x.w].map PV.str)]=Y;rw[<- vX];simp? [bY,cut]
   rw[ee,it,aF,c7];exact lp
 . generalize H++G=Y at jr ⊢;simp? [nP isJ,jr]
end
theorem mZ(a:Str):WH++a=a:=by
 show Str.mk (#[]++a.cps)=a;rw[Array.empty_append]
theorem str_len(a b:Str):(a++b).length=a.length+b.length:=by show(a.cps++b.cps).size=_;rw[Xp];rfl
theorem kH{a b x:Str}(h:a=b++⟨#[32]⟩):a++x=jn [b,x]:=by rw[iD,h];rfl
theorem B1(x y:Str):TU "box " ++x++TU " " ++y=jn ["box",x,y]:=by
 rw[iD,show TU "box " =TU "box" ++⟨#[32]⟩ by decide +kernel,blank_eq];show _=TU "box" ++⟨#[32]⟩++(x++⟨#[32]⟩++y);simp only[qx]
theorem DU:TU "lock " =fz 1++⟨#[32]⟩:=by decide +kernel
theorem Dr:TU "lane " =fz 2++⟨#[32]⟩:=by decide +kernel
theorem Ep:TU "door " =fz 3++⟨#[32]⟩:=by decide +kernel
theorem q8:TU "hand " =TU "hand" ++⟨#[32]⟩:=by decide +kernel
theorem zJ{c:CF}{e:az}{h:PH}{me:ME}{a x:Str}(q:me c e h= .ok (.str x) h)(la:a.length<=30)(lx:x.length<=30):sM (nV a (pB me hW)) c e h= .ok (.str (a++x)) h:=by
 have l1:(WH++a).length<=16777216:=by rw[mZ];omega
 have l2:(a++x).length<=16777216:=by rw[str_len];omega
 rw[AH,A9 l1,mZ,AG,q,aF,zT rfl l2,Bz,aF,Cq l2]
theorem Ls{c:CF}{e:az}{h:PH}{m1 m2:ME}{x:Str}{v:Int}(q1:m1 c e h= .ok (.str x) h)(q2:m2 c e h= .ok (.int v) h)(lx:x.length<=30)(h0:0<=v)(h9:v<=1000):sM (nV "box " (pB m1 (nV " " (pB m2 hW)))) c e h= .ok (aO (.box x v)) h:=by
 have l0:(TU "box ").length<=30:=by decide +kernel
 have l9:(TU " ").length<=30:=by decide +kernel
 have ln:=(cY h0 h9).2.1;have l1:(WH++TU "box ").length<=16777216:=by rw[mZ];omega
 have l2:(TU "box " ++x).length<=16777216:=by rw[str_len];omega
 have l3:(TU "box " ++x++TU " ").length<=16777216:=by rw[str_len,str_len];omega
 have l4:(TU "box " ++x++TU " " ++aN v).length<=16777216:=by rw[str_len,str_len,str_len];omega
 have fv:OE (.int v)=TK (aN v):=by
  have:v.natAbs.log2 < 1920:=by
   have:v.natAbs < 2 ^ 1920:=Ul (show v.natAbs < 2 ^ 10 by omega) (Nat.pow_le_pow_right (by decide) (by decide));rcases aaf v.natAbs with z | z
   . rw[z];decide
   . exact(aaP (by omega)).mpr this
  simp only[OE,this,if_true];rfl
 rw[AH,A9 l1,mZ,AG,q1,aF,zT rfl l2,A9 l3,AG,q2,aF,zT fv l4,Bz,aF,Cq l4,aO,Ln.w,B1]
theorem FU{H G:PH}{A B:List PV}(l:A.length+B.length<=100000):cD (.ref H.length) [.ref (H++ .lst A::G).length] (H++ .lst A::G++[.lst B])= .ok .non (H++ .lst (A++B)::(G++[.lst B])):=by
 have e1:(H++ .lst A::G++[.lst B])[H.length]?=TK (.lst A):=by simp
 have e2:(H++ .lst A::G++[.lst B])[(H++ .lst A::G).length]?=TK (.lst B):=aM;simp only[cD,e1,e2];rw[iF (by omega),TZ,Vr _ _ (T6 _),Wk];rfl
theorem LY{H G:PH}{A:List PV}{x:PV}(l:A.length<=100000):au (.ref H.length) [x] (H++ .lst A::G)= .ok .non (H++ .lst (A++[x])::G):=by
 have e1:(H++ .lst A::G)[H.length]?=TK (.lst A):=by simp
 rw[vA,e1,uh (by omega),Vr _ _ (T6 _),Wk];rfl
theorem qh{H G:PH}{A:List PV}:aJ (.ref H.length) (H++ .lst A::G)=true:=by
 have e1:(H++ .lst A::G)[H.length]?=TK (.lst A):=by simp
 simp only[aJ,e1]
theorem j4{c:CF}{e:az}{H G:PH}{A B:List PV}{me:ME}(e1:e[1]?=TK (TK (.ref H.length)))(q:me c e (H++ .lst A::G)= .ok (.ref (H++ .lst A::G).length) (H++ .lst A::G++[.lst B]))(l:A.length+B.length<=100000):aC (eM cD aJ (aa 1) (ab me af)) c e (H++ .lst A::G)= .ok (.nx e) (H++ .lst (A++B)::(G++[.lst B])):=by
 have v:aa 1 c e (H++ .lst A::G)= .ok (.ref H.length) (H++ .lst A::G):=by rw[vT,e1];rfl
 have i:=qh (H:=H) (G:=G) (A:=A);have x:=FU (H:=H) (G:=G) l;generalize H++ .lst (A++B)::(G++[PO.lst B])=Z at x ⊢;generalize H++PO.lst A::G++[PO.lst B]=Y at q x;generalize H++PO.lst A::G=X at *;simp? [↓v,↓q,nP i,x]
theorem km{c:CF}{e:az}{H G:PH}{A:List PV}{me:ME}{x:PV}(e1:e[1]?=TK (TK (.ref H.length))){G':PH}(q:me c e (H++ .lst A::G)= .ok x (H++ .lst A::G'))(l:A.length<=100000):aC (eM au aJ (aa 1) (ab me af)) c e (H++ .lst A::G)= .ok (.nx e) (H++ .lst (A++[x])::G'):=by
 have v:aa 1 c e (H++ .lst A::G)= .ok (.ref H.length) (H++ .lst A::G):=by rw[vT,e1];rfl
 have i:=qh (H:=H) (G:=G) (A:=A);have x:=LY (H:=H) (G:=G') (x:=x) l;rw[wu,OU,v,aF,nP i];generalize H++PO.lst A::G'=Z at *;generalize H++PO.lst A::G=X at *;simp? [↓q,x]
structure Pr.Tx(p:Pr):Prop where
 b: ∀ q∈p.bs,q.1.length<=30/\0<=q.2/\q.2<=1000
 n2: ∀ x∈p.s2,x.length<=30
 n3: ∀ x∈p.s3,x.length<=30
 n4: ∀ x∈p.s4,x.length<=30
 h: ∀ h∈p.hs,h.1.length<=30/\h.2.length<=30/\ ∀ r∈h.2,(∀ q∈dW r,pC q)/\kL (dU r)
 l:p.bs.length<=4/\p.s2.length<=4/\p.s3.length<=4/\p.s4.length<=4/\p.hs.length<=4
theorem Pr.Ok.tx{p:Pr}(o:p.Ok):p.Tx:=by
 obtain⟨L,hL,hr⟩:=o.rw;have nm:=o.nm;have k1: ∀ x∈p.bs.map (·.1),aL x:=λx m=>nm x (by simp[m])
 have k2: ∀ x∈p.s2,aL x:=λx m=>nm x (by simp[m]);have k3: ∀ x∈p.s3,aL x:=λx m=>nm x (by simp[m]);have k4: ∀ x∈p.s4,aL x:=λx m=>nm x (by simp[m]);have k5: ∀ x∈p.hs.map (·.1),aL x:=λx m=>nm x (by simp[m])
 exact⟨λq m=>⟨(bg (k1 _ (VH m))).2,(o.wo q m).1,by have:=(o.wo q m).2;omega⟩,λx m=>(bg (k2 x m)).2,λx m=>(bg (k3 x m)).2,λx m=>(bg (k4 x m)).2,λh m=>⟨(bg (k5 _ (VH m))).2,(hr h m).1,λr mr=>⟨O4 ((hr h m).2 r mr).1 (hr h m).1 ((hr h m).2 r mr).2 hL k1 k2 k3 k4,pY ((hr h m).2 r mr).1 (hr h m).1 ((hr h m).2 r mr).2 hL k1 k2 k3 k4⟩⟩,o.l1,o.l2,o.l3,o.l4,o.l5⟩
def RH:MS:=(ah (aC (eM au aJ (aa 1) (ab (sM (nV "hand " (pB (aa 2) hW))) af)))
  (aC (eM cD aJ (aa 1) (ab (jh 1 (ef (aa 3)) (gN 4) aV (ag "shown_row" (a1 (aa 4)))) af))))
section
variable{pg:Tb}(T:cx pg)
include T
theorem Fb(k:Nat){X:PH}{e0 e1 e2:Option PV}{rs:List Rw}(l:rs.length<=30)(ok: ∀ r∈rs,∀ q∈dW r,pC q):jh 1 (ef (aa 3)) (gN 4) aV (ag "shown_row" (a1 (aa 4))) (run pg (k+6)) [e0,e1,e2,TK (aH rs)] X= .ok (.ref X.length) (X++[.lst ((rs.map Ln.row).map aO)]):=by
 have lc:P3.jD ⟨TL,rs.map bY⟩ (bL 1 (gN 4) aV (ag "shown_row" (a1 (aa 4))) (run pg (k+6)) [e0,e1,e2,TK (.tup (rs.map bY))]) (rs.map bY) [] X= .ok ((rs.map Ln.row).map aO) X:=by
  refine(cO (α :=Rw) (g:=bY) rfl rs [] (f:=λr=>TK (.str (jn (dU r)))) (λr mr=>?_) (by simp;omega)).trans (by rw[UU,Vm,VB];rfl);have i1:=qZ T k (H:=X) (ok r mr);simp? [i1]
 have hl:((rs.map Ln.row).map aO).length<=30:=by rw[TV,TV];exact l
 generalize (rs.map Ln.row).map aO=ys at *;simp? [aH,lc]
theorem xl(k:Nat){H:PH}{t:Option PV}{xs0:List PV}: ∀(hs:List (Str × List Rw)),(∀ h∈hs,h.1.length<=30/\h.2.length<=30/\ ∀ r∈h.2,(∀ q∈dW r,pC q))-> ∀(A:List PV)(G:PH)(e2 e3:Option PV),A.length+40*hs.length<=1000 ->
  ∃ G' f2 f3,bh ⟨TL,xs0⟩ (bc (gT 2 (ao (gN 2) (ao (gN 3) bE))) RH (run pg (k+6))) (hs.map bU) [t,TK (.ref H.length),e2,e3] (H++ .lst A::G)= .ok (.nx [t,TK (.ref H.length),f2,f3]) (H++ .lst (A++(hs.flatMap yP).map aO)::G')
 | [],_,A,G,e2,e3,_=>⟨G,e2,e3,by rw[Vg,UE,UE,Ui];exact dS⟩
 | h::hs,hq,A,G,e2,e3,l=>by
  rw[Uc] at l;obtain⟨q1,q2,q3⟩:=hq h Ug;have s1:aC (eM au aJ (aa 1) (ab (sM (nV "hand " (pB (aa 2) hW))) af)) (run pg (k+6)) [t,TK (.ref H.length),TK (.str h.1),TK (aH h.2)] (H++ .lst A::G)= .ok (.nx [t,TK (.ref H.length),TK (.str h.1),TK (aH h.2)]) (H++ .lst (A++[aO (.hand h.1)])::G) :=
   km rfl ((zJ (me:=aa 2) (a:= "hand ") (x:=h.1) rfl (by decide +kernel) q1).trans (by rw[aO,Ln.w,kH q8])) (by omega)
  have lA:(A++[aO (.hand h.1)]).length=A.length+1:=by simp
  have lr:((h.2.map Ln.row).map aO).length=h.2.length:=by simp
  have s2:aC (eM cD aJ (aa 1) (ab (jh 1 (ef (aa 3)) (gN 4) aV (ag "shown_row" (a1 (aa 4)))) af)) (run pg (k+6)) [t,TK (.ref H.length),TK (.str h.1),TK (aH h.2)] (H++ .lst (A++[aO (.hand h.1)])::G)= .ok (.nx [t,TK (.ref H.length),TK (.str h.1),TK (aH h.2)]) (H++ .lst (A++[aO (.hand h.1)]++(h.2.map Ln.row).map aO)::(G++[.lst ((h.2.map Ln.row).map aO)])) :=
   j4 rfl (Fb T k q2 q3) (by rw[lA,lr];omega)
  obtain⟨G',f2,f3,ih⟩:=xl k (H:=H) (t:=t) (xs0:=xs0) hs (λz m=>hq z (T7 _ m)) (A++[aO (.hand h.1)]++(h.2.map Ln.row).map aO) (G++[.lst ((h.2.map Ln.row).map aO)]) (TK (.str h.1)) (TK (aH h.2)) (by rw[TX,lA,lr];omega);have st:bc (gT 2 (ao (gN 2) (ao (gN 3) bE))) RH (run pg (k+6)) (bU h) [t,TK (.ref H.length),e2,e3] (H++ .lst A::G)= .ok (.nx [t,TK (.ref H.length),TK (.str h.1),TK (aH h.2)]) (H++ .lst (A++[aO (.hand h.1)]++(h.2.map Ln.row).map aO)::(G++[.lst ((h.2.map Ln.row).map aO)])):=by
   have g:gT 2 (ao (gN 2) (ao (gN 3) bE)) (bU h) [t,TK (.ref H.length),e2,e3] (H++ .lst A::G)= .ok [t,TK (.ref H.length),TK (.str h.1),TK (aH h.2)] (H++ .lst A::G):=rfl;rw[gb,g,aF,RH];exact(aD s1).trans s2
  refine⟨G',f2,f3,?_⟩;rw[T9,bW,st,aF,aU];refine ih.trans ?_;rw[Uy,US,yP,T9,TZ,TZ];rfl
theorem o7(k:Nat){X:PH}{p:Pr}{e1 e2 e3:Option PV}{i:Nat}{xs:List Str}{tx:Str}{f:Str->Ln}(hi:i < 5)(l4:xs.length<=4)(lx: ∀ x∈xs,x.length<=30)(lt:tx.length<=30)(ix: ∀ h,bu p.v (.int (i:Nat)) h= .ok (.tup (xs.map PV.str)) h)(fe: ∀ x,.str (tx++x)=aO (f x)) :
  jh 1 (ef (eX 0 i)) (gN 4) aV (sM (nV tx (pB (aa 4) hW))) (run pg k) [TK p.v,e1,e2,e3] X= .ok (.ref X.length) (X++[.lst ((xs.map f).map aO)]):=by
 have lc:P3.jD ⟨TL,xs.map PV.str⟩ (bL 1 (gN 4) aV (sM (nV tx (pB (aa 4) hW))) (run pg k) [TK p.v,e1,e2,e3]) (xs.map PV.str) [] X= .ok ((xs.map f).map aO) X:=by
  refine(cO (α :=Str) (g:=PV.str) rfl xs [] (f:=λx=>TK (aO (f x))) (λx mx=>?_) (by simp;omega)).trans (by rw[UU,Vm,VB];rfl);have q:=zJ (c:=run pg k) (e:=[TK p.v,e1,e2,e3,TK (.str x)]) (h:=X) (me:=aa 4) (a:=tx) (x:=x) rfl lt (lx x mx);rw[fe] at q;simp? [↓q]
 have hl:((xs.map f).map aO).length<=4:=by rw[TV,TV];exact l4
 generalize (xs.map f).map aO=ys at *;simp? [ix,lc]
end
section
variable{pg:Tb}(T:cx pg)
include T
theorem BO(k:Nat){X:PH}{p:Pr}(t:p.Tx):jh 2 (ef (eX 0 0)) (gT 2 (ao (gN 4) (ao (gN 5) bE))) aV (sM (nV "box " (pB (aa 4) (nV " " (pB (aa 5) hW))))) (run pg k) [TK p.v,TL,TL,TL] X= .ok (.ref X.length) (X++[.lst ((p.bs.map λb=>Ln.box b.1 b.2).map aO)]):=by
 have ix: ∀ h,bu p.v (.int 0) h= .ok (.tup (p.bs.map vy)) h:=λh=>rfl;have lc:P3.jD ⟨TL,p.bs.map vy⟩ (bL 2 (gT 2 (ao (gN 4) (ao (gN 5) bE))) aV (sM (nV "box " (pB (aa 4) (nV " " (pB (aa 5) hW))))) (run pg k) [TK p.v,TL,TL,TL]) (p.bs.map vy) [] X= .ok ((p.bs.map λb=>Ln.box b.1 b.2).map aO) X:=by
  refine(cO (α :=Str × Int) (g:=vy) rfl p.bs [] (f:=λb=>TK (aO (.box b.1 b.2))) (λb mb=>?_) (by have:=t.l.1;simp;omega)).trans (by rw[UU,Vm,VB];rfl);obtain⟨b1,b2,b3⟩:=t.b b mb;have q:=Ls (c:=run pg k) (e:=[TK p.v,TL,TL,TL,TK (.str b.1),TK (.int b.2)]) (h:=X) (m1:=aa 4) (m2:=aa 5) (x:=b.1) (v:=b.2) rfl rfl b1 b2 b3;simp? [vy,↓q]
 have hl:((p.bs.map λb=>Ln.box b.1 b.2).map aO).length<=4:=by rw[TV,TV];exact t.l.1
 generalize (p.bs.map λb=>Ln.box b.1 b.2).map aO=ys at *;simp? [ix,lc]
theorem t6(k:Nat){H:PH}{p:Pr}(t:p.Tx): ∃ G,run pg (k+7) "shown" [p.v] H= .ok (.ref H.length) (H++ .lst (p.ls.map aO)::G):=by
 obtain⟨l1,l2,l3,l4,l5⟩:=t.l
 let A1:List PV:=(p.bs.map λb=>Ln.box b.1 b.2).map aO
 let B2:List PV:=(p.s2.map (Ln.thing 1)).map aO
 let B3:List PV:=(p.s3.map (Ln.thing 2)).map aO
 let B4:List PV:=(p.s4.map (Ln.thing 3)).map aO
 have z1:A1.length<=4:=by simp only[A1,TV];exact l1
 have z2:B2.length<=4:=by simp only[B2,TV];exact l2
 have z3:B3.length<=4:=by simp only[B3,TV];exact l3
 have z4:B4.length<=4:=by simp only[B4,TV];exact l4
 have s2:aC (eM cD aJ (aa 1) (ab (jh 1 (ef (eX 0 1)) (gN 4) aV (sM (nV "lock " (pB (aa 4) hW)))) af)) (run pg (k+6)) [TK p.v,TK (.ref H.length),TL,TL] (H++[.lst A1])= .ok (.nx [TK p.v,TK (.ref H.length),TL,TL]) (H++ .lst (A1++B2)::([]++[.lst B2])) :=
  j4 (G:=[]) rfl (o7 T (k+6) (p:=p) (i:=1) (xs:=p.s2) (tx:= "lock ") (f:=Ln.thing 1) (by decide) l2 t.n2 (by decide +kernel) (λh=>rfl) λx=>by rw[aO,Ln.w,kH DU]) (by show A1.length+B2.length<=_;omega)
 have s3:aC (eM cD aJ (aa 1) (ab (jh 1 (ef (eX 0 2)) (gN 4) aV (sM (nV "lane " (pB (aa 4) hW)))) af)) (run pg (k+6)) [TK p.v,TK (.ref H.length),TL,TL] (H++ .lst (A1++B2)::([]++[.lst B2]))= .ok (.nx [TK p.v,TK (.ref H.length),TL,TL]) (H++ .lst (A1++B2++B3)::([]++[.lst B2]++[.lst B3])) :=
  j4 rfl (o7 T (k+6) (p:=p) (i:=2) (xs:=p.s3) (tx:= "lane ") (f:=Ln.thing 2) (by decide) l3 t.n3 (by decide +kernel) (λh=>rfl) λx=>by rw[aO,Ln.w,kH Dr]) (by show(A1++B2).length+B3.length<=_;rw[TX];omega)
 have s4:aC (eM cD aJ (aa 1) (ab (jh 1 (ef (eX 0 3)) (gN 4) aV (sM (nV "door " (pB (aa 4) hW)))) af)) (run pg (k+6)) [TK p.v,TK (.ref H.length),TL,TL] (H++ .lst (A1++B2++B3)::([]++[.lst B2]++[.lst B3]))= .ok (.nx [TK p.v,TK (.ref H.length),TL,TL]) (H++ .lst (A1++B2++B3++B4)::([]++[.lst B2]++[.lst B3]++[.lst B4])) :=
  j4 rfl (o7 T (k+6) (p:=p) (i:=3) (xs:=p.s4) (tx:= "door ") (f:=Ln.thing 3) (by decide) l4 t.n4 (by decide +kernel) (λh=>rfl) λx=>by rw[aO,Ln.w,kH Ep]) (by show(A1++B2++B3).length+B4.length<=_;rw[TX,TX];omega)
 obtain⟨G',f2,f3,lp⟩:=xl T k (H:=H) (t:=TK p.v) (xs0:=p.hs.map bU) p.hs (λh m=>⟨(t.h h m).1,(t.h h m).2.1,λr mr=>((t.h h m).2.2 r mr).1⟩) (A1++B2++B3++B4) ([]++[.lst B2]++[.lst B3]++[.lst B4]) TL TL (by rw[TX,TX,TX];omega);have all:A1++B2++B3++B4++(p.hs.flatMap yP).map aO=p.ls.map aO:=by
  simp only[A1,B2,B3,B4,Pr.ls,US,TZ]
 rw [all] at lp;refine ⟨G',?_⟩;rw [run_eq T.Fu rfl];refine YM (congrArg (fin H) (a₂ := .ok (.rt (.ref H.length)) (H++ .lst (p.ls.map aO)::G')) ?_) (fh.trans (dC rfl));show qX (run pg (k+6)) [TK p.v,TL,TL,TL] H=_;unfold qX;refine (aD (e1:=[TK p.v,TK (.ref H.length),TL,TL]) (h1:=H++[.lst A1]) ?_).trans ?_
 . have q:=BO T (k+6) (X:=H) t;simp? [↓q];rfl
 refine(aD s2).trans ((aD s3).trans ((aD s4).trans ?_));refine(aD (e1:=[TK p.v,TK (.ref H.length),f2,f3]) (h1:=H++ .lst (p.ls.map aO)::G') ?_).trans ?_
 . generalize H++ .lst (A1++B2++B3++B4)::([]++[PO.lst B2]++[PO.lst B3]++[PO.lst B4])=Y at lp ⊢;have it:ef (eX 0 4) (run pg (k+6)) [TK p.v,TK (.ref H.length),TL,TL] Y= .ok ⟨TL,p.hs.map bU⟩ Y:=rfl;rw[ee,it,aF,c7];exact lp
 . rfl
end
def Sk:ME:=(aq aA (aq aA (aq bu (ay (ab (eS "box") (a3 (eS "lock") (eS "lane") (eS "door")))) (aa 2)) (eS " ")) (aa 3))
def P0:MS:=(aC (eM au aJ (aa 1) (ab Sk af)))
def QM:MS:=(aC (eM au aJ (aa 1) (ab (ag "_law_row_line" (a1 (aa 5))) af)))
def Sn:MS:=(ah (aC (eM au aJ (aa 1) (ab (aq aA (eS "hand ") (aa 3)) af))) (d6 (ef (aa 4)) (gN 5) QM))
def Ro:MS:=(d6 (ef (aq bu (aa 0) (aa 2))) (gN 3) P0)
theorem Jk: ∀ i:Nat,i < 4->gA [PV.str "box",.str "lock",.str "lane",.str "door"] (i:Int)=TK (.str (fz i))/\(fz i).length<=30:=λi hi=>by
 match i,hi with
 | 0,_=>exact⟨rfl,by decide +kernel⟩
 | 1,_=>exact⟨rfl,by decide +kernel⟩
 | 2,_=>exact⟨rfl,by decide +kernel⟩
 | 3,_=>exact⟨rfl,by decide +kernel⟩
section
variable{pg:Tb}(T:cx pg)
include T
theorem As(k:Nat){X:PH}{p:Pr}(t:p.Tx):jh 1 (ef (eX 0 0)) (gN 6) aV (aq aA (aq aA (aq aA (eS "box ") (eX 6 0)) (eS " ")) (eB cU (a1 (eX 6 1)))) (run pg k) [TK p.v,TL,TL,TL,TL,TL] X= .ok (.ref X.length) (X++[.lst ((p.bs.map λb=>Ln.box b.1 b.2).map aO)]):=by
 have ix: ∀ h,bu p.v (.int 0) h= .ok (.tup (p.bs.map vy)) h:=λh=>rfl;have lc:P3.jD ⟨TL,p.bs.map vy⟩ (bL 1 (gN 6) aV (aq aA (aq aA (aq aA (eS "box ") (eX 6 0)) (eS " ")) (eB cU (a1 (eX 6 1)))) (run pg k) [TK p.v,TL,TL,TL,TL,TL]) (p.bs.map vy) [] X= .ok ((p.bs.map λb=>Ln.box b.1 b.2).map aO) X:=by
  refine(cO (α :=Str × Int) (g:=vy) rfl p.bs [] (f:=λb=>TK (aO (.box b.1 b.2))) (λb mb=>?_) (by have:=t.l.1;simp;omega)).trans (by rw[UU,Vm,VB];rfl);obtain⟨b1,b2,b3⟩:=t.b b mb;have l0:(TU "box ").length<=30:=by decide +kernel
  have l9:(TU " ").length<=30:=by decide +kernel
  have ln:=(cY b2 b3).2.1;have st: ∀ g,cU [.int b.2] g= .ok (.str (aN b.2)) g:=λg=>pj b2 (by omega);have d1: ∀ g,aA (.str "box ") (.str b.1) g= .ok (.str (TU "box " ++b.1)) g:=λg=>iP (by omega);have d2: ∀ g,aA (.str (TU "box " ++b.1)) (.str " ") g= .ok (.str (TU "box " ++b.1++TU " ")) g:=λg=>iP (by rw[str_len];omega);have d3: ∀ g,aA (.str (TU "box " ++b.1++TU " ")) (.str (aN b.2)) g= .ok (aO (.box b.1 b.2)) g:=λg=>(iP (by rw[str_len,str_len];omega)).trans (by rw[aO,Ln.w,B1]);simp? [vy,d1,d2,st,d3]
 have hl:((p.bs.map λb=>Ln.box b.1 b.2).map aO).length<=4:=by rw[TV,TV];exact t.l.1
 generalize (p.bs.map λb=>Ln.box b.1 b.2).map aO=ys at *;simp? [ix,lc]
theorem kh(k:Nat){H:PH}{t e4 e5:Option PV}{xs0:List PV}{i:Nat}(hi:i < 4): ∀(xs:List Str),(∀ x∈xs,x.length<=30)-> ∀(A:List PV)(G:PH)(e3:Option PV),A.length+xs.length<=1000 ->
  ∃ G' f3,bh ⟨TL,xs0⟩ (bc (gN 3) P0 (run pg k)) (xs.map PV.str) [t,TK (.ref H.length),TK (.int i),e3,e4,e5] (H++ .lst A::G)= .ok (.nx [t,TK (.ref H.length),TK (.int i),f3,e4,e5]) (H++ .lst (A++(xs.map (Ln.thing i)).map aO)::G')
 | [],_,A,G,e3,_=>⟨G,e3,by rw[UE,UE,UE,Ui];exact dS⟩
 | x::xs,hx,A,G,e3,l=>by
  rw[Uc] at l;have lx:=hx x Ug;obtain⟨sa,sl⟩:=Jk i hi;have l9:(TU " ").length<=30:=by decide +kernel
  have me:Sk (run pg k) [t,TK (.ref H.length),TK (.int i),TK (.str x),e4,e5] (H++ .lst A::G)= .ok (aO (.thing i x)) (H++ .lst A::(G++[.lst [.str "box",.str "lock",.str "lane",.str "door"]])):=by
   have d1: ∀ g,aA (.str (fz i)) (.str " ") g= .ok (.str (fz i++TU " ")) g:=λg=>iP (by omega);have d2: ∀ g,aA (.str (fz i++TU " ")) (.str x) g= .ok (aO (.thing i x)) g:=λg=>(iP (by rw[str_len];omega)).trans (by rw[aO,Ln.w,iD,blank_eq];rfl);have e:(H++ .lst A::(G++[PO.lst [.str "box",.str "lock",.str "lane",.str "door"]]))=(H++ .lst A::G)++[PO.lst [.str "box",.str "lock",.str "lane",.str "door"]]:=by simp
   rw[e];generalize H++PO.lst A::G=X;have ix:bu (.ref X.length) (.int i) (X++[PO.lst [.str "box",.str "lock",.str "lane",.str "door"]])= .ok (.str (fz i)) (X++[PO.lst [.str "box",.str "lock",.str "lane",.str "door"]]):=by
    rw[va,aM,x6,sa];rfl
   simp? [Sk,↓ix,d1,d2]
  have st:bc (gN 3) P0 (run pg k) (.str x) [t,TK (.ref H.length),TK (.int i),e3,e4,e5] (H++ .lst A::G)= .ok (.nx [t,TK (.ref H.length),TK (.int i),TK (.str x),e4,e5]) (H++ .lst (A++[aO (.thing i x)])::(G++[.lst [.str "box",.str "lock",.str "lane",.str "door"]])):=by
   have g:gN 3 (.str x) [t,TK (.ref H.length),TK (.int i),e3,e4,e5] (H++ .lst A::G)= .ok [t,TK (.ref H.length),TK (.int i),TK (.str x),e4,e5] (H++ .lst A::G):=rfl;rw[gb,g,aF,P0];exact km rfl me (by omega)
  obtain⟨G',f3,ih⟩:=kh k (H:=H) (t:=t) (e4:=e4) (e5:=e5) (xs0:=xs0) hi xs (λz m=>hx z (T7 _ m)) (A++[aO (.thing i x)]) (G++[.lst [.str "box",.str "lock",.str "lane",.str "door"]]) (TK (.str x)) (by rw[TX,UC];omega);refine⟨G',f3,?_⟩;rw[T9,bW,st,aF,aU];refine ih.trans ?_;rw[TZ];rfl
theorem wX(k:Nat){H:PH}{t e2 e3 e4:Option PV}{xs0:List PV}: ∀(rs:List Rw),(∀ r∈rs,(∀ q∈dW r,pC q)/\kL (dU r))-> ∀(A:List PV)(G:PH)(e5:Option PV),A.length+rs.length<=1000 ->
  ∃ f5,bh ⟨TL,xs0⟩ (bc (gN 5) QM (run pg (k+6))) (rs.map bY) [t,TK (.ref H.length),e2,e3,e4,e5] (H++ .lst A::G)= .ok (.nx [t,TK (.ref H.length),e2,e3,e4,f5]) (H++ .lst (A++(rs.map Ln.row).map aO)::G)
 | [],_,A,G,e5,_=>⟨e5,by rw[UE,UE,UE,Ui];exact dS⟩
 | r::rs,hx,A,G,e5,l=>by
  rw[Uc] at l;obtain⟨q1,q2⟩:=hx r Ug;have me:(ag "_law_row_line" (a1 (aa 5))) (run pg (k+6)) [t,TK (.ref H.length),e2,e3,e4,TK (bY r)] (H++ .lst A::G)= .ok (aO (.row r)) (H++ .lst A::G):=by
   have i1:=uj T k (H:=H++ .lst A::G) q1 q2;generalize H++PO.lst A::G=X at i1 ⊢;simp? [i1,aO,Ln.w]
  have st:bc (gN 5) QM (run pg (k+6)) (bY r) [t,TK (.ref H.length),e2,e3,e4,e5] (H++ .lst A::G)= .ok (.nx [t,TK (.ref H.length),e2,e3,e4,TK (bY r)]) (H++ .lst (A++[aO (.row r)])::G):=by
   have g:gN 5 (bY r) [t,TK (.ref H.length),e2,e3,e4,e5] (H++ .lst A::G)= .ok [t,TK (.ref H.length),e2,e3,e4,TK (bY r)] (H++ .lst A::G):=rfl;rw[gb,g,aF,QM];exact km rfl me (by omega)
  obtain⟨f5,ih⟩:=wX k (H:=H) (t:=t) (e2:=e2) (e3:=e3) (e4:=e4) (xs0:=xs0) rs (λz m=>hx z (T7 _ m)) (A++[aO (.row r)]) G (TK (bY r)) (by rw[TX,UC];omega);refine⟨f5,?_⟩;rw[T9,bW,st,aF,aU];refine ih.trans ?_;rw[TZ];rfl
theorem uP(k:Nat){H:PH}{t e2:Option PV}{xs0:List PV}: ∀(hs:List (Str × List Rw)),(∀ h∈hs,h.1.length<=30/\h.2.length<=30/\ ∀ r∈h.2,(∀ q∈dW r,pC q)/\kL (dU r))-> ∀(A:List PV)(G:PH)(e3 e4 e5:Option PV),A.length+40*hs.length<=1000 ->
  ∃ f3 f4 f5,bh ⟨TL,xs0⟩ (bc (gT 2 (ao (gN 3) (ao (gN 4) bE))) Sn (run pg (k+6))) (hs.map bU) [t,TK (.ref H.length),e2,e3,e4,e5] (H++ .lst A::G)= .ok (.nx [t,TK (.ref H.length),e2,f3,f4,f5]) (H++ .lst (A++(hs.flatMap yP).map aO)::G)
 | [],_,A,G,e3,e4,e5,_=>⟨e3,e4,e5,by rw[Vg,UE,UE,Ui];exact dS⟩
 | h::hs,hq,A,G,e3,e4,e5,l=>by
  rw[Uc] at l;obtain⟨q1,q2,q3⟩:=hq h Ug;have me:(aq aA (eS "hand ") (aa 3)) (run pg (k+6)) [t,TK (.ref H.length),e2,TK (.str h.1),TK (aH h.2),e5] (H++ .lst A::G)= .ok (aO (.hand h.1)) (H++ .lst A::G):=by
   have l0:(TU "hand ").length<=30:=by decide +kernel
   have d1: ∀ g,aA (.str "hand ") (.str h.1) g= .ok (aO (.hand h.1)) g:=λg=>(iP (by omega)).trans (by rw[aO,Ln.w,kH q8]);generalize H++PO.lst A::G=X;simp? [d1]
  have s1:=km (c:=run pg (k+6)) (e:=[t,TK (.ref H.length),e2,TK (.str h.1),TK (aH h.2),e5]) rfl me (show A.length<=100000 by omega);have lA:(A++[aO (.hand h.1)]).length=A.length+1:=by simp
  obtain⟨f5',s2⟩:=wX T k (H:=H) (t:=t) (e2:=e2) (e3:=TK (.str h.1)) (e4:=TK (aH h.2)) (xs0:=h.2.map bY) h.2 q3 (A++[aO (.hand h.1)]) G e5 (by rw[lA];omega);have lr:((h.2.map Ln.row).map aO).length=h.2.length:=by simp
  obtain⟨f3,f4,f5,ih⟩:=uP k (H:=H) (t:=t) (e2:=e2) (xs0:=xs0) hs (λz m=>hq z (T7 _ m)) (A++[aO (.hand h.1)]++(h.2.map Ln.row).map aO) G (TK (.str h.1)) (TK (aH h.2)) f5' (by rw[TX,lA,lr];omega);have st:bc (gT 2 (ao (gN 3) (ao (gN 4) bE))) Sn (run pg (k+6)) (bU h) [t,TK (.ref H.length),e2,e3,e4,e5] (H++ .lst A::G)= .ok (.nx [t,TK (.ref H.length),e2,TK (.str h.1),TK (aH h.2),f5']) (H++ .lst (A++[aO (.hand h.1)]++(h.2.map Ln.row).map aO)::G):=by
   have g:gT 2 (ao (gN 3) (ao (gN 4) bE)) (bU h) [t,TK (.ref H.length),e2,e3,e4,e5] (H++ .lst A::G)= .ok [t,TK (.ref H.length),e2,TK (.str h.1),TK (aH h.2),e5] (H++ .lst A::G):=rfl;rw[gb,g,aF,Sn];refine(aD s1).trans ?_;generalize H++ .lst (A++[aO (.hand h.1)])::G=Y at s2 ⊢;have it:ef (aa 4) (run pg (k+6)) [t,TK (.ref H.length),e2,TK (.str h.1),TK (aH h.2),e5] Y= .ok ⟨TL,h.2.map bY⟩ Y:=rfl;rw[ee,it,aF,c7];exact s2
  refine⟨f3,f4,f5,?_⟩;rw [T9,bW,st,aF,aU];refine ih.trans ?_;rw [Uy,US,yP,T9,TZ,TZ];rfl
theorem rZ(k : Nat){H : PH}{p : Pr}(t : p.Tx) : ∃ G, run pg (k + 7) "_law_lines" [p.v] H = .ok (.ref H.length) (H ++ .lst (p.ls.map aO) :: G) := by
  obtain ⟨l1, l2, l3, l4, l5⟩ := t.l;have z1 : ((p.bs.map λb => Ln.box b.1 b.2).map aO).length = p.bs.length := by simp
  have z2 : ((p.s2.map (Ln.thing 1)).map aO).length = p.s2.length := by simp
  have z3 : ((p.s3.map (Ln.thing 2)).map aO).length = p.s3.length := by simp
  have z4 : ((p.s4.map (Ln.thing 3)).map aO).length = p.s4.length := by simp
  have q1 := As T (k + 6) (X := H) t;generalize hA : (p.bs.map λb => Ln.box b.1 b.2).map aO = A at *;obtain ⟨G1, a3, c1⟩ := kh T (k + 6) (H := H) (t := TK p.v) (e4 := TL) (e5 := TL) (xs0 := p.s2.map PV.str) (i := 1) (by decide) p.s2 t.n2 A [] TL (by omega);generalize hB : (p.s2.map (Ln.thing 1)).map aO = B at *;obtain ⟨G2, b3, c2⟩ := kh T (k + 6) (H := H) (t := TK p.v) (e4 := TL) (e5 := TL) (xs0 := p.s3.map PV.str) (i := 2) (by decide) p.s3 t.n3 (A ++ B) G1 a3 (by rw [TX]; omega);generalize hC : (p.s3.map (Ln.thing 2)).map aO = C at *;obtain ⟨G3, d3, c3⟩ := kh T (k + 6) (H := H) (t := TK p.v) (e4 := TL) (e5 := TL) (xs0 := p.s4.map PV.str) (i := 3) (by decide) p.s4 t.n4 (A ++ B ++ C) G2 b3 (by rw [TX, TX]; omega);generalize hD : (p.s4.map (Ln.thing 3)).map aO = D at *;obtain ⟨f3, f4, f5, lp⟩ := uP T k (H := H) (t := TK p.v) (e2 := TK (.int 3)) (xs0 := p.hs.map bU) p.hs t.h (A ++ B ++ C ++ D) G3 d3 TL TL (by rw [TX, TX, TX]; omega);have all : A ++ B ++ C ++ D ++ (p.hs.flatMap yP).map aO = p.ls.map aO := by
    rw [<- hA, <- hB, <- hC, <- hD];simp only [Pr.ls, US, TZ]
  rw [all] at lp;refine ⟨G3, ?_⟩;rw [run_eq T.su rfl];refine YM (congrArg (fin H) (a₂ := .ok (.rt (.ref H.length)) (H ++ .lst (p.ls.map aO) :: G3)) ?_) (fh.trans (dC rfl));show gH (run pg (k + 6)) [TK p.v, TL, TL, TL, TL, TL] H = _;unfold gH;refine (aD (e1 := [TK p.v, TK (.ref H.length), TL, TL, TL, TL]) (h1 := H ++ [.lst A]) ?_).trans ?_
  . simp? (disch := omega) only [↓q1]
  refine (aD (e1 := [TK p.v, TK (.ref H.length), TK (.int 3), d3, TL, TL]) (h1 := H ++ .lst (A ++ B ++ C ++ D) :: G3) ?_).trans ?_
  . have turn : ∀(i : Nat)(e2 e3 f3 : Option PV)(xs : List Str)(X Y : PH), bu p.v (.int i) X = .ok (.tup (xs.map PV.str)) X -> bh ⟨none, xs.map PV.str⟩ (bc (gN 3) P0 (run pg (k + 6))) (xs.map PV.str) [some p.v, some (.ref H.length), some (.int i), e3, none, none] X = .ok (.nx [some p.v, some (.ref H.length), some (.int i), f3, none, none]) Y ->
        bc (gN 2) Ro (run pg (k + 6)) (.int i) [some p.v, some (.ref H.length), e2, e3, none, none] X = .ok (.nx [some p.v, some (.ref H.length), some (.int i), f3, none, none]) Y := λi e2 e3 f3 xs X Y ix q => by
      have g : gN 2 (.int i) [TK p.v, TK (.ref H.length), e2, e3, TL, TL] X = .ok [TK p.v, TK (.ref H.length), TK (.int i), e3, TL, TL] X := rfl;have it : ef (aq bu (aa 0) (aa 2)) (run pg (k + 6)) [TK p.v, TK (.ref H.length), TK (.int i), e3, TL, TL] X = .ok ⟨TL, xs.map PV.str⟩ X := by
        simp? (disch := omega) only [ix]
      rw [gb, g, aF, Ro, ee, it, aF, c7];exact q
    have it : jP (a2 (eI 1) (eI 4)) (run pg (k + 6)) [TK p.v, TK (.ref H.length), TL, TL, TL, TL] (H ++ [.lst A]) = .ok ⟨TL, [.int 1, .int 2, .int 3]⟩ (H ++ [.lst A]) := rfl;rw [ee, it, aF, c7];show bh ⟨TL, [.int 1, .int 2, .int 3]⟩ (bc (gN 2) Ro (run pg (k + 6))) [.int 1, .int 2, .int 3] _ _ = _;have t1 := turn 1 TL TL a3 p.s2 (H ++ [.lst A]) _ rfl c1;have t2 := turn 2 (TK (.int (1 : Nat))) a3 b3 p.s3 _ _ rfl c2;have t3 := turn 3 (TK (.int (2 : Nat))) b3 d3 p.s4 _ _ rfl c3;rw [bW];refine (congrArg (λz => RV.bind z _) t1).trans ?_;rw [aF, aU, bW];refine (congrArg (λz => RV.bind z _) t2).trans ?_;rw [aF, aU, bW];refine (congrArg (λz => RV.bind z _) t3).trans ?_;rw [aF, aU];exact dS
  refine (aD (e1 := [TK p.v, TK (.ref H.length), TK (.int 3), f3, f4, f5]) (h1 := H ++ .lst (p.ls.map aO) :: G3) ?_).trans ?_
  . generalize H ++ .lst (A ++ B ++ C ++ D) :: G3 = Y at lp ⊢;have it : ef (eX 0 4) (run pg (k + 6)) [TK p.v, TK (.ref H.length), TK (.int 3), d3, TL, TL] Y = .ok ⟨TL, p.hs.map bU⟩ Y := rfl;rw [ee, it, aF, c7];exact lp
  . rfl
end
theorem rM{n:Int}(h0:0<=n):UG (aN n)=true:=by
 unfold UG;rw[Array.all_eq_true'];intro c m;have:=gU h0 c (by simpa using m);simp;omega
theorem Af{a b:Str}(ha:UG a=true)(hb:UG b=true):UG (a++b)=true:=by
 unfold UG at ha hb ⊢;show(a.cps++b.cps).all _=true;rw[Array.all_append,ha,hb];rfl
theorem zw: ∀{ws:List Str},(∀ w∈ws,UG w=true)->UG (jn ws)=true:=λ{ws} h=>by
 rw[iD]
 induction ws with
 | nil=>exact(by decide +kernel:UG WH=true)
 | cons x r ih =>
  cases r with
  | nil=>exact h x (by simp)
  | cons y t =>
   rw[m7 (by simp)]
   exact Af (Af (h x (by simp)) (by decide +kernel)) (ih λw m=>h w (T7 _ m))
theorem jL: ∀ w∈W5++vd++W6,UG w=true:=by decide +kernel
theorem j8: ∀{e:Sm},e.ok-> ∀ w∈aK e,UG w=true
 | .num n,o=>λw m=>by rw[aK,UD] at m;rw[m];exact rM o.1
 | .of x,o=>λw m=>by rw[aK,UD] at m;rw[m];exact o.1
 | .un a,o=>λw m=>by
  rw[aK] at m;rcases Uh.mp m with rfl | m
  . exact jL _ (by decide +kernel)
  . exact j8 (e:=a) o w m
 | .bin q a b,o=>λw m=>by
  rw[aK] at m;rcases Uh.mp m with rfl | m
  . exact jL _ (by cases q<;>decide +kernel)
  rcases Uz.mp m with m | m
  . exact j8 (e:=a) o.1 w m
  . exact j8 (e:=b) o.2 w m
theorem BV{L:List Str}{k:Nat}{s1 s2 s3 s4:List Str}{r:Rw}(ok:kD L k r)(nm:pb s1 s2 s3 s4 r)(hL: ∀ x∈L,aL x)(h1: ∀ x∈s1,aL x)(h2: ∀ x∈s2,aL x)(h3: ∀ x∈s3,aL x)(h4: ∀ x∈s4,aL x): ∀ w∈dU r,UG w=true:=by
 have w0: ∀ s∈vd,UG s=true:=λs m=>jL s (by simp[m]);have one: ∀{a b:Str},a∈vd->UG b=true-> ∀ w∈[a,b],UG w=true:=λha hb=>TN.mpr ⟨w0 _ ha,TN.mpr ⟨hb,λ_ m=>nomatch m⟩⟩;have two: ∀{a b c:Str},a∈vd->UG b=true->UG c=true-> ∀ w∈[a,b,c],UG w=true:=λha hb hc=>TN.mpr ⟨w0 _ ha,TN.mpr ⟨hb,TN.mpr ⟨hc,λ_ m=>nomatch m⟩⟩⟩;have sum: ∀{a b:Str}{e:Sm},a∈vd->UG b=true->kr e-> ∀ w∈a::b::aK e,UG w=true:=λha hb o=>TN.mpr ⟨w0 _ ha,TN.mpr ⟨hb,j8 o.1⟩⟩;cases r with
 | let_ x e=>exact sum (by decide +kernel) (hL x ok.1).1 ok.2
 | leap v e=>exact sum (by decide +kernel) (rM ok.1) ok.2.2
 | take l=>exact one (by decide +kernel) (h2 l nm).1
 | free l=>exact one (by decide +kernel) (h2 l nm).1
 | get x b=>exact two (by decide +kernel) (hL x ok).1 (h1 b nm).1
 | put b e=>exact sum (by decide +kernel) (h1 b nm).1 ok
 | send l e=>exact sum (by decide +kernel) (h3 l nm).1 ok
 | fetch x l=>exact two (by decide +kernel) (hL x ok).1 (h3 l nm).1
 | say d e=>exact sum (by decide +kernel) (h4 d nm).1 ok
 | clock x=>exact one (by decide +kernel) (hL x ok).1
 | lot x v=>exact two (by decide +kernel) (hL x ok.1).1 (rM (by have:=ok.2.1;omega))
 | hear x d=>exact two (by decide +kernel) (hL x ok).1 (h4 d nm).1
theorem Pr.Ok.TC{p:Pr}(o:p.Ok): ∀ l∈p.ls,UG (jn l.w)=true:=by
 obtain⟨L,hL,hr⟩:=o.rw;have nm:=o.nm;have k1: ∀ x∈p.bs.map (·.1),aL x:=λx m=>nm x (by simp[m])
 have k2: ∀ x∈p.s2,aL x:=λx m=>nm x (by simp[m]);have k3: ∀ x∈p.s3,aL x:=λx m=>nm x (by simp[m]);have k4: ∀ x∈p.s4,aL x:=λx m=>nm x (by simp[m]);have k5: ∀ x∈p.hs.map (·.1),aL x:=λx m=>nm x (by simp[m])
 have two: ∀{a x:Str},a∈W5->aL x->UG (jn [a,x])=true:=λha hx=>zw (TN.mpr ⟨jL _ (by simp[ha]),TN.mpr ⟨hx.1,λ_ m=>nomatch m⟩⟩);intro l m;unfold Pr.ls at m;rcases Uz.mp m with m | m
 . obtain⟨b,mb,rfl⟩:=Vb.mp m;exact zw (TN.mpr ⟨by decide +kernel,TN.mpr ⟨(k1 _ (VH mb)).1,TN.mpr ⟨rM (o.wo b mb).1,λ_ m=>nomatch m⟩⟩⟩)
 rcases Uz.mp m with m | m
 . obtain⟨b,mb,rfl⟩:=Vb.mp m;exact two (by decide +kernel) (k2 b mb)
 rcases Uz.mp m with m | m
 . obtain⟨b,mb,rfl⟩:=Vb.mp m;exact two (by decide +kernel) (k3 b mb)
 rcases Uz.mp m with m | m
 . obtain⟨b,mb,rfl⟩:=Vb.mp m;exact two (by decide +kernel) (k4 b mb)
 obtain⟨h,mh,m⟩:=List.mem_flatMap.mp m;rcases Uh.mp m with rfl | m
 . exact two (by decide +kernel) (k5 _ (VH mh))
 . obtain⟨r,mr,rfl⟩:=Vb.mp m;exact zw (BV ((hr h mh).2 r mr).1 ((hr h mh).2 r mr).2 hL k1 k2 k3 k4)
theorem Dk{h:PH}{n m:Nat}{ss:List Str}(e1:h[n]?=TK (.lst (ss.map PV.str)))(e2:h[m]?=TK (.lst (ss.map PV.str)))(ok: ∀ x∈ss,UG x=true):pD (.ref n) (.ref m) h= .ok (.bl false) h:=by
 have d1:=kn (k:=5) e1;have d2:=kn (k:=5) e2;have sc:lP (.ref n) (.ref m)=false:=rfl;have c1:(WR (ss.map Vv)).canLay0=true:=by rw[ZI,XI];exact Wt.mpr ok
 have dp:(WR (ss.map Vv)).depth<=64:=by
  have: ∀ ss:List Str,WG (ss.map Vv)=0:=λss=>by
   induction ss with
   | nil=>rfl
   | cons a r ih=>show max 0 (WG (r.map Vv))=0;rw[ih];rfl
  show WG (ss.map Vv)+1<=64;rw[this];decide
 have er: ∀ ss:List Str,abe (ss.map Vv) (ss.map Vv)=true:=λss=>by
  induction ss with
  | nil=>rfl
  | cons a r ih =>
   show((a == a)&&abe (r.map Vv) (r.map Vv))=true
   rw[ih,beq_self_eq_true];rfl
 have al:alike (.ref n) (.ref m) h=TK true:=by
  unfold alike;rw[sc,d1,d2];have c3:min (WR (ss.map Vv)).depth (WR (ss.map Vv)).depth<=64:=UQ (YE _ _) dp;simp only[Ya,if_false,c1,c3,and_self,if_true];exact congrArg TK (er ss)
 have nd:jS h (.ref n)=false:=by simp only[jS,e1]
 unfold pD;rw[al,nd];rfl
theorem xn{h:PH}{n:Nat}{xs:List PV}(e:h[n]?=TK (.lst xs)):cm [.ref n,.tup [.ty "tuple",.ty "list"]] h= .ok (.bl true) h/\cm [.ref n,.ty "tuple"] h= .ok (.bl false) h/\cm [.ref n,.ty "list"] h= .ok (.bl true) h:=by
 refine⟨?_,?_,?_⟩<;>(simp only[cm,tyP,e];rfl)
theorem qe: ∀{xs:List PV},(∀ x∈xs,jw x=true)->kQ xs=true
 | [],_=>rfl
 | x::r,h=>by rw[kQ,h x Ug,qe λy m=>h y (T7 _ m)];rfl
theorem Ai{d:Nat}: ∀{xs:List PV},(∀ x∈xs,HE x<=d)->M8 xs<=d
 | [],_=>Vp _
 | x::r,h=>by rw[M8];have:=h x Ug;have:=Ai λy m=>h y (T7 _ m);omega
def pX(d:Nat)(v:PV):Prop:=jw v=true/\HE v<=d
theorem pX.tup{d:Nat}{xs:List PV}(l:xs.length<=1000)(h: ∀ x∈xs,pX d x):pX (d+1) (.tup xs):=⟨by rw[jw,qe λx m=>(h x m).1,Bool.and_true,decide_eq_true_eq];omega,by rw[HE];have:=Ai λx m=>(h x m).2;omega⟩
theorem pX.mono{d d':Nat}{v:PV}(h:pX d v)(l:d<=d'):pX d' v:=⟨h.1,UQ h.2 l⟩
theorem aB{d:Nat}(x:Str):pX d (.str x):=⟨rfl,Vp _⟩
theorem nj{d:Nat}(x:Int):pX d (.int x):=⟨rfl,Vp _⟩
theorem fJ{d:Nat}{a b:PV}(ha:pX d a)(hb:pX d b):pX (d+1) (.tup [a,b]):= .tup (by simp) (TN.mpr ⟨ha,TN.mpr ⟨hb,λ_ m=>nomatch m⟩⟩)
theorem cy{d:Nat}{a b c:PV}(ha:pX d a)(hb:pX d b)(hc:pX d c):pX (d+1) (.tup [a,b,c]):= .tup (by simp) (TN.mpr ⟨ha,TN.mpr ⟨hb,TN.mpr ⟨hc,λ_ m=>nomatch m⟩⟩⟩)
theorem rP: ∀ e:Sm,pX e.dp (cz e)
 | .num n=>fJ (aB _) (nj _)
 | .of x=>fJ (aB _) (aB _)
 | .un a=>fJ (aB _) (rP a)
 | .bin _ a b=>cy (aB _) ((rP a).mono (by omega)) ((rP b).mono (by omega))
theorem Ic{L:List Str}{k:Nat}{r:Rw}(ok:kD L k r):pX 6 (bY r):=by
 have sm: ∀{e:Sm},kr e->pX 5 (cz e):=λ{e} o=>(rP e).mono o.2.1;cases r with
 | let_ x e=>exact cy (aB _) (aB _) (sm ok.2)
 | leap v e=>exact cy (aB _) (nj _) (sm ok.2.2)
 | take l=>exact fJ (aB _) (aB _)
 | free l=>exact fJ (aB _) (aB _)
 | get x b=>exact cy (aB _) (aB _) (aB _)
 | put b e=>exact cy (aB _) (aB _) (sm ok)
 | send l e=>exact cy (aB _) (aB _) (sm ok)
 | fetch x l=>exact cy (aB _) (aB _) (aB _)
 | say d e=>exact cy (aB _) (aB _) (sm ok)
 | clock x=>exact fJ (aB _) (aB _)
 | lot x v=>exact cy (aB _) (aB _) (nj _)
 | hear x d=>exact cy (aB _) (aB _) (aB _)
theorem Pr.Ok.SH{p:Pr}(o:p.Ok):pX 10 p.v:=by
 obtain⟨L,hL,hr⟩:=o.rw;have st: ∀{xs:List Str},xs.length<=4->pX 9 (.tup (xs.map PV.str)):=λ{xs} l=> .tup (by rw[TV];omega) λx m=>by obtain⟨s,_,rfl⟩:=Vb.mp m;exact aB _
 refine .tup (by simp) (TN.mpr ⟨?_,TN.mpr ⟨st o.l2,TN.mpr ⟨st o.l3,TN.mpr ⟨st o.l4,TN.mpr ⟨?_,λ_ m=>nomatch m⟩⟩⟩⟩⟩)
 . exact .tup (by rw[TV];have:=o.l1;omega) λx m=>by
    obtain⟨b,_,rfl⟩:=Vb.mp m;exact(fJ (aB _) (nj _)).mono (d:=1) (by decide)
 . exact .tup (by rw[TV];have:=o.l5;omega) λx m=>by
    obtain⟨h,mh,rfl⟩:=Vb.mp m;refine fJ (aB _) (.tup (by rw[TV];have:=(hr h mh).1;omega) λy my=>?_);obtain⟨r,mr,rfl⟩:=Vb.mp my;exact Ic ((hr h mh).2 r mr).1
section
variable{pg:Tb}(T:cx pg)
include T
theorem tE(k:Nat){h:PH}{n m:Nat}{ss:List Str}(e1:h[n]?=TK (.lst (ss.map PV.str)))(e2:h[m]?=TK (.lst (ss.map PV.str)))(l:ss.length<=1000):run pg (k+2) "_law_same" [.ref n,.ref m] h= .ok (.bl true) h:=by
 obtain⟨i1,i2,i3⟩:=xn e1;obtain⟨j1,j2,j3⟩:=xn e2;have lc:jD ⟨TL,aP 0 ss.length⟩ (bL 1 (gN 2) aV (ag "_law_same" (ab (aq bu (aa 0) (aa 2)) (ab (aq bu (aa 1) (aa 2)) af))) (run pg (k+1)) [TK (.ref n),TK (.ref m)]) (aP 0 ss.length) [] h= .ok ((Ue ss.length true).map PV.bl) h:=by
  rw[show aP 0 ss.length=(VY ss.length).map (λi:Nat=>PV.int (0+(i:Int))) from rfl];refine(cO (f:=λ_=>TK (PV.bl true)) (g:=λi:Nat=>PV.int (0+(i:Int))) iW (VY ss.length) [] (λq mq=>?_) (by rw[Yq];simp;omega)).trans (by rw[wJ]);have hq:q < ss.length:=Zt.mp mq;have at1:gA (ss.map PV.str) (0+(q:Int))=TK (.str ss[q]):=P3.gK (n:=q) (by omega) (by rw[U1,UI hq];rfl);have x1:bu (.ref n) (.int (0+(q:Int))) h= .ok (.str ss[q]) h:=by rw[va,e1,x6,at1];rfl
  have x2:bu (.ref m) (.int (0+(q:Int))) h= .ok (.str ss[q]) h:=by rw[va,e2,x6,at1];rfl
  have sm:=same_refl T k h (.str ss[q]) rfl (Vp _);simp? [↓x1,↓x2,sm]
 have al:=xx (h:=h++[.lst ((Ue ss.length true).map PV.bl)]) (n:=h.length) aM;rw[all_true] at al;rw[run_eq T.ip rfl];simp? [aY,bw,i1,i2,i3,j1,j2,j3,e1,e2,TV,VL,lc,al,jZ]
end
noncomputable def room:Nat:=20
def Qk:MS:=(ah (ax (aq bu (aa 2) (aq g9 (aa 3) (eI 2))) (gN 4))
  (ah (ax (ag "_law_lines" (a1 (aa 4))) (gN 5))
  (ah (ax (ag "shown" (a1 (aa 4))) (gN 6))
  (ah (cX (mF (aX (ag "_law_same" (a2 (aa 6) (aa 5))))) (aQ (eC (.bl false))) c8)
  (ah (ax (eB j9 (a1 (aa 5))) (gN 7))
  (ah (cX (C7 (mF (aX (ag "_law_same" (ab (ag "read" (a1 (aa 7))) (a1 (aa 4)))))) (aX (aq pD (aa 7) (aa 5)))) (aQ (eC (.bl false))) c8)
  (ah (aC (eM au aJ (aa 6) (a1 (eS "hand x"))))
  (ah (aC (eM y8 aJ (aa 6) af))
  (cX (mF (aX (ag "_law_same" (ab (ag "read" (ab (eB j9 (a1 (aa 5))) af)) (a1 (aa 4)))))) (aQ (eC (.bl false))) c8)))))))))
theorem AB: ∀ hs:List (Str × List Rw),(∀ h∈hs,h.2.length<=30)->(hs.flatMap yP).length<=31*hs.length
 | [],_=>by simp
 | h::r,q=>by
  have h1:=q h Ug;have h2:=AB r λz m=>q z (T7 _ m);rw[Uy,TX,Uc,yP,Uc,TV];omega
theorem Pr.Tx.len{p:Pr}(t:p.Tx):p.ls.length<=1000:=by
 have h:=AB p.hs λh m=>(t.h h m).2.1;obtain⟨l1,l2,l3,l4,l5⟩:=t.l;unfold Pr.ls;simp only[TX,TV];omega
theorem Em(ls:List Ln):ls.map aO=(ls.map λl=>jn l.w).map PV.str:=by rw[VB];rfl
section
variable{pg:Tb}(T:cx pg)
include T
theorem mT{p:Pr}(o:p.Ok){Y:PH}{i:Nat}{L:List PV}{e0 e1 e4 e5 e6 e7:Option PV}(y2:Y[2]?=TK (.lst L))(ix:gA L ((i:Int) % 2)=TK p.v) :
  ∃ Y' f5 f6 f7,Qk (run pg 20) [e0,e1,TK (.ref 2),TK (.int i),e4,e5,e6,e7] Y= .ok (.nx [e0,e1,TK (.ref 2),TK (.int i),TK p.v,f5,f6,f7]) Y'/\Y'[2]?=TK (.lst L):=by
 have t:=o.tx;have l2:=(TR.mp y2).1;obtain⟨G1,r1⟩:=rZ T 13 (H:=Y) t;obtain⟨G2,r2⟩:=t6 T 13 (H:=Y++ .lst (p.ls.map aO)::G1) t;have d1: ∀ Z:PH,(Y++ .lst (p.ls.map aO)::G1++Z)[Y.length]?=TK (.lst (p.ls.map aO)):=λZ=>by simp
 have f1: ∀ Z:PH,(Y++ .lst (p.ls.map aO)::G1++ .lst (p.ls.map aO)::G2++Z)[(Y++ .lst (p.ls.map aO)::G1).length]?=TK (.lst (p.ls.map aO)):=λZ=>by
  rw[TZ,Uo (T6 _),Wk];rfl
 have fd:Y.length < (Y++ .lst (p.ls.map aO)::G1).length:=by simp
 have f2: ∀ Z:PH,((Y++ .lst (p.ls.map aO)::G1)++Z)[2]?=TK (.lst L):=λZ=>cJ (cJ y2);have f2n:2≠(Y++ .lst (p.ls.map aO)::G1).length:=by omega
 generalize hF:(Y++PO.lst (p.ls.map aO)::G1).length=F at *;have d2: ∀ Z:PH,(Y++ .lst (p.ls.map aO)::G1++ .lst (p.ls.map aO)::G2++Z)[Y.length]?=TK (.lst (p.ls.map aO)):=λZ=>by rw[TZ];exact d1 _
 have f2': ∀ Z:PH,(Y++ .lst (p.ls.map aO)::G1++ .lst (p.ls.map aO)::G2++Z)[2]?=TK (.lst L):=λZ=>by rw[TZ];exact f2 _
 generalize hY1:Y++PO.lst (p.ls.map aO)::G1=Y1 at *;generalize hY2:Y1++PO.lst (p.ls.map aO)::G2=Y2 at *;have ln:=t.len;have ls:=Em p.ls;have f0:=f1 [];have d0:=d2 [];rw[Ui] at f0 d0;have sm:run pg 20 "_law_same" [.ref F,.ref Y.length] Y2= .ok (.bl true) Y2:=by
  rw[ls] at f0 d0;exact tE T 18 f0 d0 (by rw[TV];exact ln)
 have n0:(Y2++[PO.lst (p.ls.map aO)])[Y2.length]?=TK (.lst (p.ls.map aO)):=aM;have rd:=Pr.read T o 8 n0;have sp: ∀ h,run pg 20 "_law_same" [p.v,p.v] h= .ok (.bl true) h:=λh=>same_refl T 19 h _ o.SH.1 (UQ o.SH.2 (by decide));have nq:pD (.ref Y2.length) (.ref Y.length) (Y2++[PO.lst (p.ls.map aO)])= .ok (.bl false) (Y2++[PO.lst (p.ls.map aO)]):=by
  have a:=n0;have b:=d2 [.lst (p.ls.map aO)];rw[ls] at a b ⊢;exact Dk a b λs m=>by obtain⟨l,ml,rfl⟩:=Vb.mp m;exact o.TC l ml
 have f3:=f1 [.lst (p.ls.map aO)];have d3:=d2 [.lst (p.ls.map aO)];have y3:=f2' [.lst (p.ls.map aO)];have hl:(p.ls.map aO).length < 16777216:=by rw[TV];omega
 generalize hY3:Y2++[PO.lst (p.ls.map aO)]=Y3 at *;have f3l:=(TR.mp f3).1;have f4:(Y3.set F (.lst (p.ls.map aO++[PV.str "hand x"])))[F]?=TK (.lst (p.ls.map aO++[PV.str "hand x"])):=Us f3l;have rv:=OR f4;have d5:((Y3.set F (.lst (p.ls.map aO++[PV.str "hand x"]))).set F (.lst (p.ls.map aO++[PV.str "hand x"]).reverse))[Y.length]?=TK (.lst (p.ls.map aO)):=by
  rw[Um (by omega),Um (by omega)];exact d3
 have y5:((Y3.set F (.lst (p.ls.map aO++[PV.str "hand x"]))).set F (.lst (p.ls.map aO++[PV.str "hand x"]).reverse))[2]?=TK (.lst L):=by
  rw[Um (by omega),Um (by omega)];exact y3
 have y2':=y2;generalize Y.length=D at *;generalize hY4:Y3.set F (.lst (p.ls.map aO++[PV.str "hand x"]))=Y4 at *;generalize hY5:Y4.set F (.lst (p.ls.map aO++[PV.str "hand x"]).reverse)=Y5 at *;have n5:(Y5++[PO.lst (p.ls.map aO)])[Y5.length]?=TK (.lst (p.ls.map aO)):=aM;have rd5:=Pr.read T o 8 n5;refine⟨Y5++[.lst (p.ls.map aO)],TK (.ref D),TK (.ref F),TK (.ref Y2.length),?_,cJ y5⟩;unfold Qk;refine(aD (e1:=[e0,e1,TK (.ref 2),TK (.int i),TK p.v,e5,e6,e7]) (h1:=Y) ?_).trans ?_
 . simp? [y2,ix]
 refine(aD (e1:=[e0,e1,TK (.ref 2),TK (.int i),TK p.v,TK (.ref D),e6,e7]) (h1:=Y1) ?_).trans ?_
 . simp? [r1]
 refine(aD (e1:=[e0,e1,TK (.ref 2),TK (.int i),TK p.v,TK (.ref D),TK (.ref F),e7]) (h1:=Y2) ?_).trans ?_
 . simp? [r2]
 refine(aD (e1:=[e0,e1,TK (.ref 2),TK (.int i),TK p.v,TK (.ref D),TK (.ref F),e7]) (h1:=Y2) ?_).trans ?_
 . simp? [sm]
 generalize p.ls.map aO=LS at *;refine(aD (e1:=[e0,e1,TK (.ref 2),TK (.int i),TK p.v,TK (.ref D),TK (.ref F),TK (.ref Y2.length)]) (h1:=Y3) ?_).trans ?_
 . simp? [d0,hY3]
 generalize Y2.length=E at *;refine(aD (e1:=[e0,e1,TK (.ref 2),TK (.int i),TK p.v,TK (.ref D),TK (.ref F),TK (.ref E)]) (h1:=Y3) ?_).trans ?_
 . simp? [rd,sp,nq]
 refine(aD (e1:=[e0,e1,TK (.ref 2),TK (.int i),TK p.v,TK (.ref D),TK (.ref F),TK (.ref E)]) (h1:=Y4) ?_).trans ?_
 . simp? [f3,hY4]
 refine(aD (e1:=[e0,e1,TK (.ref 2),TK (.int i),TK p.v,TK (.ref D),TK (.ref F),TK (.ref E)]) (h1:=Y5) ?_).trans ?_
 . simp? [f4,rv,hY5]
 . simp? [d5,rd5,sp]
end
def lK:Pr:=⟨[],[],[],[],[("lets",[])]⟩
theorem sT:lK.Ok:=by
 refine⟨by decide,by decide,by decide,by decide,by decide,(by intro z;cases z),λx m=>?_,(by simp[lK]),λb m=>(nomatch m),[],λx m=>(nomatch m),λh m=>?_⟩
 . have:x= "lets" :=by simpa [lK] using m
   rw[this];unfold aL;decide +kernel
 . have:h=(TU "lets",[]):=by simpa [lK] using m
   rw [this];exact ⟨by decide,λr mr=>nomatch mr⟩
theorem F3:lK.ls.map aO=[.str "hand lets"]:=by
 show [PV.str (jn ["hand", "lets"])]=_;rw [<- kH q8,show TU "hand " ++TU "lets" =TU "hand lets" by decide +kernel]
theorem AA(aLine aDraft:Nat): ∀ ns:List Int,ns.length<=63->Ok (run (tb aLine aDraft) (room+1) "law" [.ref 0] [.jW (ns.map PV.int)]) λv _=>v= .bl true:=by
 intro ns hn;have T:cx (tb aLine aDraft):=has aLine aDraft;generalize tb aLine aDraft=pg at T ⊢;show Ok (run pg (20+1) "law" [.ref 0] [cv ns]) _;obtain⟨p,k1,o1,op,a1',a2',e1⟩:=oK T 10 hn 0 TL [] (by decide) (by decide);obtain⟨q,k2,o2,oq,b1',b2',e2⟩:=oK T 10 hn k1 o1 [] (by omega) (by omega);have e1':run pg 20 "_law_program" [.ref 1] [cv ns,bK 0 TL]= .ok p.v [cv ns,bK k1 o1]:=e1;have e2':run pg 20 "_law_program" [.ref 1] [cv ns,bK k1 o1]= .ok q.v [cv ns,bK k2 o2]:=e2;obtain⟨Y1,g5,g6,g7,t1,h1⟩:=mT T op (Y:=[cv ns,bK k2 o2,.lst [p.v,q.v]]) (i:=0) (L:=[p.v,q.v]) (e0:=TK (.ref 0)) (e1:=TK (.ref 1)) (e4:=TL) (e5:=TL) (e6:=TL) (e7:=TL) rfl rfl;obtain⟨Y2,h5,h6,h7,t2,h2⟩:=mT T oq (i:=1) (e0:=TK (.ref 0)) (e1:=TK (.ref 1)) (e4:=TK p.v) (e5:=g5) (e6:=g6) (e7:=g7) h1 rfl;obtain⟨Y3,i5,i6,i7,t3,h3⟩:=mT T op (i:=2) (e0:=TK (.ref 0)) (e1:=TK (.ref 1)) (e4:=TK q.v) (e5:=h5) (e6:=h6) (e7:=h7) h2 rfl;obtain⟨Y4,j5,j6,j7,t4,h4⟩:=mT T oq (i:=3) (e0:=TK (.ref 0)) (e1:=TK (.ref 1)) (e4:=TK p.v) (e5:=i5) (e6:=i6) (e7:=i7) h3 rfl;have n0:(Y4++[PO.lst (lK.ls.map aO)])[Y4.length]?=TK (.lst (lK.ls.map aO)):=aM;have rd:=Pr.read T sT 8 n0;obtain⟨G,sh⟩:=t6 T 13 (H:=Y4++[.lst (lK.ls.map aO)]) sT.tx;rw[F3] at rd sh;have s1: ∀ Z:PH,(Y4++[PO.lst [.str "hand lets"]]++ .lst [.str "hand lets"]::G++Z)[(Y4++[PO.lst [.str "hand lets"]]).length]?=TK (.lst ([TU "hand lets"].map PV.str)):=λZ=>by
  rw[TZ,Uo (T6 _),Wk];rfl
 have sm:=tE T 18 (h:=Y4++[PO.lst [.str "hand lets"]]++ .lst [.str "hand lets"]::G++[.lst [.str "hand lets"]]) (s1 _) (m:=(Y4++[PO.lst [.str "hand lets"]]++ .lst [.str "hand lets"]::G).length) aM (by decide);have A: ∃ Z,xC (run pg 20) [TK (.ref 0),TL,TL,TL,TL,TL,TL,TL] [cv ns]= .ok (.rt (.bl true)) Z:=by
  refine⟨Y4++[PO.lst [.str "hand lets"]]++ .lst [.str "hand lets"]::G++[.lst [.str "hand lets"]],?_⟩;unfold xC;refine(aD (e1:=[TK (.ref 0),TK (.ref 1),TL,TL,TL,TL,TL,TL]) (h1:=[cv ns,bK 0 TL]) ?_).trans ?_
  . rfl
  refine(aD (e1:=[TK (.ref 0),TK (.ref 1),TK (.ref 2),TL,TL,TL,TL,TL]) (h1:=[cv ns,bK k2 o2,.lst [p.v,q.v]]) ?_).trans ?_
  . simp? [e1',e2']
  refine(aD (e1:=[TK (.ref 0),TK (.ref 1),TK (.ref 2),TK (.int 3),TK q.v,j5,j6,j7]) (h1:=Y4) ?_).trans ?_
  . have it:eO (a1 (eI 4)) (run pg 20) [TK (.ref 0),TK (.ref 1),TK (.ref 2),TL,TL,TL,TL,TL] [cv ns,bK k2 o2,.lst [p.v,q.v]]= .ok ⟨TL,aP 0 4⟩ [cv ns,bK k2 o2,.lst [p.v,q.v]]:=rfl;have st: ∀(i:Nat)(e3 e4 e5 e6 e7:Option PV)(X:PH),bc (gN 3) Qk (run pg 20) (.int (0+(i:Int))) [TK (.ref 0),TK (.ref 1),TK (.ref 2),e3,e4,e5,e6,e7] X=Qk (run pg 20) [TK (.ref 0),TK (.ref 1),TK (.ref 2),TK (.int i),e4,e5,e6,e7] X:=λi e3 e4 e5 e6 e7 X=>by
     rw[Int.zero_add];rfl
    rw[ee,it,aF,c7];show bh ⟨TL,aP 0 4⟩ (bc (gN 3) Qk (run pg 20)) [.int (0+(0:Nat)),.int (0+(1:Nat)),.int (0+(2:Nat)),.int (0+(3:Nat))] _ _=_;rw[bW,st,t1,aF,aU,bW,st,t2,aF,aU,bW,st,t3,aF,aU,bW,st,t4,aF,aU];exact dS
  . generalize hA:Y4++[PO.lst [PV.str "hand lets"]]=Z1 at rd sh sm;generalize hB:Z1++PO.lst [PV.str "hand lets"]::G=Z2 at sh sm;simp? [hA,rd,sh,hB,sm]
 obtain⟨Z,A⟩:=A;rw[run_eq T.Hk rfl];show Ok (fin _ (xC (run pg 20) [TK (.ref 0),TL,TL,TL,TL,TL,TL,TL] [cv ns])) _;rw[A,fh];unfold P3.settle;split<;>exact⟨_,_,rfl,rfl⟩
open PySem PySem.W PyProof.Rows
set_option maxHeartbeats 8000000
def jC(K:TQ)(mg:Str->Option TY):List (String × Nat)->Prop
 | []=>True
 | (x,n)::l=>At K mg x (top n)/\jC K mg l
def Zs(K:TQ):List Str->Prop
 | []=>True
 | x::l=>Va K UL x=TK TL/\Zs K l
def Ss(K:TQ):List (Uj × Str × String × Nat × Nat)->Prop
 | []=>True
 | (C,m,fn,i,j)::l=>RU K C m fn (fR i j)/\Ss K l
theorem Zs.all{K:TQ}{h:Vx}{mg:Str->Option TY}(X:K.In h)(G:h.Ns UL mg): ∀{l:List Str},Zs K l-> ∀ x∈l,mg x=TL
 | [],_=>by simp_all
 | _::_,z=>TN.mpr ⟨PySem.W.mg_none_of X G z.1,Zs.all X G z.2⟩
theorem jC.go{aLine aDraft:Nat}{P:UP}{w:U6}{K:TQ}{mg:Str->Option TY}{x:String}{n:Nat}{l:List (String × Nat)}{st:Xe}{N:List Str}{b:String × Df}{m:List (String × Df)}(g:cx (tb aLine aDraft)->At K mg x (top n)->cA P w K mg (tb aLine aDraft) b.1 b.2 st N)(A:jC K mg ((x,n)::l))(r:jC K mg l-> ∀ p∈m,∃ st N,cA P w K mg (tb aLine aDraft) p.1 p.2 st N): ∀ p∈b::m,∃ st N,cA P w K mg (tb aLine aDraft) p.1 p.2 st N:=TN.mpr ⟨⟨_,_,g (has _ _) A.1⟩,r A.2⟩
theorem all_mk{l:XA}{w:U6}{K:TQ}{h:Vx}{mg:Str->Option TY}{fa:Uj}(X:K.In h)(G:h.Ns UL mg)(hfa:mg "law" =TK (.ref fa)){aQl aQk rQk0 rQk1 rQk2 rQk3 rQk4 rQk5 rQk6 rQk7 rQk8 rQk9 rQk10 rQk11 aQm aLine aDraft:Uj}{nQl eQk nQkv0_ nQkv1_ nQkv2_ nQkv3_ nQkv4_ nQkv5_ nQkv6_ nQkv7_ nQkv8_ nQkv9_ nQkv10_ nQkv11_ eQm:Nat}{sQl sQkv0_ sQkv1_ sQkv2_ sQkv3_ sQkv4_ sQkv5_ sQkv6_ sQkv7_ sQkv8_ sQkv9_ sQkv10_ sQkv11_:Array (Option TY)}{tQl0 tQl1 tQl2 tQl3 tQl4 tQd tQe tQi tQa tQg tQh tQc tQf tQb tQj qQk0 qQk1 qQk2 qQk3 qQk4 qQk5 qQk6 qQk7 qQk8 qQk9 qQk10 qQk11 tQkv0_0 tQkv0_1 tQkv1_0 tQkv1_1 tQkv2_0 tQkv2_1 tQkv3_0 tQkv3_1 tQkv4_0 tQkv5_0 tQkv6_0 tQkv6_1 tQkv7_0 tQkv7_1 tQkv8_0 tQkv8_1 tQkv9_0 tQkv10_0 tQkv10_1 tQkv11_0 tQkv11_1 qQm0 qQm1 qQm2 qQm3 qQm4 qQm5 vQm0 vQm1 vQm2 vQm3 vQm4 vQm5:Tok}{dQkv0_ dQkv1_ dQkv2_ dQkv3_ dQkv4_ dQkv5_ dQkv6_ dQkv7_ dQkv8_ dQkv9_ dQkv10_ dQkv11_:Option Uj}
  (A:jC K mg [("is_word",6),("is_name",7),("shown",9),("shown_row",10),("shown_sum",11),("read",26),("read_line",27),("read_thing",28),("read_row",29),("read_part",30),("read_number",31),("writes_number",32),("read_sum",33),("_law_draw",35),("_law_pick",36),("_law_names",37),("_law_sum_in",38),("_law_sum",39),("_law_row",40),("_law_program",41),("_law_sum_words",42),("_law_row_line",43),("_law_lines",44),("_law_same",45),("law",46)])
  (Z:Zs K gy)
  (wQl:Va K UL "SORTS" =TK (TK (.ref aQl))) (oQl:K.lookup aQl=TK ⟨.type "tuple",TL,.seq #[.str "box" tQl0,.str "lock" tQl1,.str "lane" tQl2,.str "door" tQl3,.str "hand" tQl4] nQl,sQl⟩)
  (wQd:Va K UL "LETTERS" =TK (TK (.str "abcdefghijklmnopqrstuvwxyz" tQd)))
  (wQe:Va K UL "LONGEST_NAME" =TK (TK (.int 8 tQe)))
  (wQi:Va K UL "MOST_SUMS" =TK (TK (.int 12 tQi)))
  (wQa:Va K UL "DEEPEST" =TK (TK (.int 5 tQa)))
  (wQg:Va K UL "MOST_OF_A_SORT" =TK (TK (.int 4 tQg)))
  (wQh:Va K UL "MOST_ROWS" =TK (TK (.int 30 tQh)))
  (wQc:Va K UL "LEAST_CHANCES" =TK (TK (.int 2 tQc)))
  (wQf:Va K UL "MOST_CHANCES" =TK (TK (.int 1000 tQf)))
  (wQb:Va K UL "FIGURES" =TK (TK (.str "0123456789" tQb)))
  (wQj:Va K UL "MOST_VALUE" =TK (TK (.int 999 tQj)))
  (oQkv0_:K.lookup rQk0=TK ⟨.type "tuple",dQkv0_,.seq #[.str "pocket" tQkv0_0,.str "sum" tQkv0_1] nQkv0_,sQkv0_⟩)
  (oQkv1_:K.lookup rQk1=TK ⟨.type "tuple",dQkv1_,.seq #[.str "target" tQkv1_0,.str "sum" tQkv1_1] nQkv1_,sQkv1_⟩)
  (oQkv2_:K.lookup rQk2=TK ⟨.type "tuple",dQkv2_,.seq #[.str "pocket" tQkv2_0,.str "box" tQkv2_1] nQkv2_,sQkv2_⟩)
  (oQkv3_:K.lookup rQk3=TK ⟨.type "tuple",dQkv3_,.seq #[.str "box" tQkv3_0,.str "sum" tQkv3_1] nQkv3_,sQkv3_⟩)
  (oQkv4_:K.lookup rQk4=TK ⟨.type "tuple",dQkv4_,.seq #[.str "lock" tQkv4_0] nQkv4_,sQkv4_⟩)
  (oQkv5_:K.lookup rQk5=TK ⟨.type "tuple",dQkv5_,.seq #[.str "lock" tQkv5_0] nQkv5_,sQkv5_⟩)
  (oQkv6_:K.lookup rQk6=TK ⟨.type "tuple",dQkv6_,.seq #[.str "lane" tQkv6_0,.str "sum" tQkv6_1] nQkv6_,sQkv6_⟩)
  (oQkv7_:K.lookup rQk7=TK ⟨.type "tuple",dQkv7_,.seq #[.str "pocket" tQkv7_0,.str "lane" tQkv7_1] nQkv7_,sQkv7_⟩)
  (oQkv8_:K.lookup rQk8=TK ⟨.type "tuple",dQkv8_,.seq #[.str "door" tQkv8_0,.str "sum" tQkv8_1] nQkv8_,sQkv8_⟩)
  (oQkv9_:K.lookup rQk9=TK ⟨.type "tuple",dQkv9_,.seq #[.str "pocket" tQkv9_0] nQkv9_,sQkv9_⟩)
  (oQkv10_:K.lookup rQk10=TK ⟨.type "tuple",dQkv10_,.seq #[.str "pocket" tQkv10_0,.str "chances" tQkv10_1] nQkv10_,sQkv10_⟩)
  (oQkv11_:K.lookup rQk11=TK ⟨.type "tuple",dQkv11_,.seq #[.str "pocket" tQkv11_0,.str "door" tQkv11_1] nQkv11_,sQkv11_⟩)
  (wQk:Va K UL "ROW_PARTS" =TK (TK (.ref aQk))) (oQk:K.lookup aQk=TK { cls:= .type "dict",data:= .dict #[{ hash:=UT w.params "let",key:= .str "let" qQk0,val:= .ref rQk0},{ hash:=UT w.params "leap",key:= .str "leap" qQk1,val:= .ref rQk1},{ hash:=UT w.params "get",key:= .str "get" qQk2,val:= .ref rQk2},{ hash:=UT w.params "put",key:= .str "put" qQk3,val:= .ref rQk3},{ hash:=UT w.params "take",key:= .str "take" qQk4,val:= .ref rQk4},{ hash:=UT w.params "free",key:= .str "free" qQk5,val:= .ref rQk5},{ hash:=UT w.params "send",key:= .str "send" qQk6,val:= .ref rQk6},{ hash:=UT w.params "fetch",key:= .str "fetch" qQk7,val:= .ref rQk7},{ hash:=UT w.params "say",key:= .str "say" qQk8,val:= .ref rQk8},{ hash:=UT w.params "clock",key:= .str "clock" qQk9,val:= .ref rQk9},{ hash:=UT w.params "lot",key:= .str "lot" qQk10,val:= .ref rQk10},{ hash:=UT w.params "hear",key:= .str "hear" qQk11,val:= .ref rQk11}] eQk}) (yQk:(aQk == VX)=false)
  (wQm:Va K UL "SUM_PARTS" =TK (TK (.ref aQm))) (oQm:K.lookup aQm=TK { cls:= .type "dict",data:= .dict #[{ hash:=UT w.params "add",key:= .str "add" qQm0,val:= .int 2 vQm0},{ hash:=UT w.params "sub",key:= .str "sub" qQm1,val:= .int 2 vQm1},{ hash:=UT w.params "mul",key:= .str "mul" qQm2,val:= .int 2 vQm2},{ hash:=UT w.params "less",key:= .str "less" qQm3,val:= .int 2 vQm3},{ hash:=UT w.params "same",key:= .str "same" qQm4,val:= .int 2 vQm4},{ hash:=UT w.params "not",key:= .str "not" qQm5,val:= .int 1 vQm5}] eQm}) (yQm:(aQm == VX)=false)
  (M:Ss K [(aLine, "__init__", "Line.__init__",24,0),(aLine, "coming", "Line.coming",24,1),(aLine, "go_over", "Line.go_over",24,2),(aLine, "close", "Line.close",24,3),(aDraft, "__init__", "Draft.__init__",25,0),(aDraft, "may_tell", "Draft.may_tell",25,1),(aDraft, "may_have_row", "Draft.may_have_row",25,2),(aDraft, "has_name", "Draft.has_name",25,3),(aDraft, "tell", "Draft.tell",25,4),(aDraft, "finished", "Draft.finished",25,5)])
  (wLine:Va K UL "Line" =TK (TK (.ref aLine))) (xLine:Wr K aLine WH=true) (yLine:WM K aLine=true) (zLine:Xh K aLine=true) (vLine:UO K (.ref aLine) "__setattr__" =TK (TK (.builtin "object.__setattr__"))) (mkLine:WC K aLine=true) (kpLine:Vt K (.ref aLine)=true)
  (fLine_place:UO K (.ref aLine) "place" =TK TL)
  (fLine_row:UO K (.ref aLine) "row" =TK TL)
  (fLine_words:UO K (.ref aLine) "words" =TK TL)
  (wDraft:Va K UL "Draft" =TK (TK (.ref aDraft))) (xDraft:Wr K aDraft WH=true) (yDraft:WM K aDraft=true) (zDraft:Xh K aDraft=true) (vDraft:UO K (.ref aDraft) "__setattr__" =TK (TK (.builtin "object.__setattr__"))) (mkDraft:WC K aDraft=true) (kpDraft:Vt K (.ref aDraft)=true)
  (fDraft_latest:UO K (.ref aDraft) "latest" =TK TL)
  (fDraft_leaps:UO K (.ref aDraft) "leaps" =TK TL)
  (fDraft_names:UO K (.ref aDraft) "names" =TK TL)
  (fDraft_rows:UO K (.ref aDraft) "rows" =TK TL)
  (fDraft_worths:UO K (.ref aDraft) "worths" =TK TL) :
  ∃ fd:WD,(∀(s:Ua)(v:TY),YR s fd ⟨[v],[]⟩ [("_law_script",v)])∧ ∀ base:Vx,K.In base->base.Ns UL mg->gi l.prog w K mg base mV (room+1) fa fd ["_law_script"] (jQ K (tb aLine aDraft) (room+1) "law"):=by
 have T:Top l.prog w K mg (tb aLine aDraft):=⟨Zs.all X G Z,GA (conT:=conT) rfl (TN.mpr ⟨Gb (us:=[.str "box" tQl0,.str "lock" tQl1,.str "lane" tQl2,.str "door" tQl3,.str "hand" tQl4]) (U8 X G wQl) oQl (by show 5<=Ub;decide) (.cons (.str _ _) (.cons (.str _ _) (.cons (.str _ _) (.cons (.str _ _) (.cons (.str _ _) .nil))))),(TN.mpr ⟨fN (U8 X G wQd) (.str _ _),(TN.mpr ⟨fN (U8 X G wQe) (.int _ _),(TN.mpr ⟨fN (U8 X G wQi) (.int _ _),(TN.mpr ⟨fN (U8 X G wQa) (.int _ _),(TN.mpr ⟨fN (U8 X G wQg) (.int _ _),(TN.mpr ⟨fN (U8 X G wQh) (.int _ _),(TN.mpr ⟨fN (U8 X G wQc) (.int _ _),(TN.mpr ⟨fN (U8 X G wQf) (.int _ _),(TN.mpr ⟨fN (U8 X G wQb) (.str _ _),(TN.mpr ⟨fN (U8 X G wQj) (.int _ _),(by intro p m;cases m)⟩)⟩)⟩)⟩)⟩)⟩)⟩)⟩)⟩)⟩)⟩),Fd (dcT:=dcT) rfl (TN.mpr ⟨zP (ls:=[("let",qQk0,.ref rQk0),("leap",qQk1,.ref rQk1),("get",qQk2,.ref rQk2),("put",qQk3,.ref rQk3),("take",qQk4,.ref rQk4),("free",qQk5,.ref rQk5),("send",qQk6,.ref rQk6),("fetch",qQk7,.ref rQk7),("say",qQk8,.ref rQk8),("clock",qQk9,.ref rQk9),("lot",qQk10,.ref rQk10),("hear",qQk11,.ref rQk11)]) (U8 X G wQk) oQk yQk (show ([.inr "let",.inr "leap",.inr "get",.inr "put",.inr "take",.inr "free",.inr "send",.inr "fetch",.inr "say",.inr "clock",.inr "lot",.inr "hear"]:List Key).Nodup by decide +kernel) (.cons ⟨rfl,d7 (us:=[.str "pocket" tQkv0_0,.str "sum" tQkv0_1]) oQkv0_ (by show 2<=Ub;decide) (.cons (.str _ _) (.cons (.str _ _) .nil))⟩ (.cons ⟨rfl,d7 (us:=[.str "target" tQkv1_0,.str "sum" tQkv1_1]) oQkv1_ (by show 2<=Ub;decide) (.cons (.str _ _) (.cons (.str _ _) .nil))⟩ (.cons ⟨rfl,d7 (us:=[.str "pocket" tQkv2_0,.str "box" tQkv2_1]) oQkv2_ (by show 2<=Ub;decide) (.cons (.str _ _) (.cons (.str _ _) .nil))⟩ (.cons ⟨rfl,d7 (us:=[.str "box" tQkv3_0,.str "sum" tQkv3_1]) oQkv3_ (by show 2<=Ub;decide) (.cons (.str _ _) (.cons (.str _ _) .nil))⟩ (.cons ⟨rfl,d7 (us:=[.str "lock" tQkv4_0]) oQkv4_ (by show 1<=Ub;decide) (.cons (.str _ _) .nil)⟩ (.cons ⟨rfl,d7 (us:=[.str "lock" tQkv5_0]) oQkv5_ (by show 1<=Ub;decide) (.cons (.str _ _) .nil)⟩ (.cons ⟨rfl,d7 (us:=[.str "lane" tQkv6_0,.str "sum" tQkv6_1]) oQkv6_ (by show 2<=Ub;decide) (.cons (.str _ _) (.cons (.str _ _) .nil))⟩ (.cons ⟨rfl,d7 (us:=[.str "pocket" tQkv7_0,.str "lane" tQkv7_1]) oQkv7_ (by show 2<=Ub;decide) (.cons (.str _ _) (.cons (.str _ _) .nil))⟩ (.cons ⟨rfl,d7 (us:=[.str "door" tQkv8_0,.str "sum" tQkv8_1]) oQkv8_ (by show 2<=Ub;decide) (.cons (.str _ _) (.cons (.str _ _) .nil))⟩ (.cons ⟨rfl,d7 (us:=[.str "pocket" tQkv9_0]) oQkv9_ (by show 1<=Ub;decide) (.cons (.str _ _) .nil)⟩ (.cons ⟨rfl,d7 (us:=[.str "pocket" tQkv10_0,.str "chances" tQkv10_1]) oQkv10_ (by show 2<=Ub;decide) (.cons (.str _ _) (.cons (.str _ _) .nil))⟩ (.cons ⟨rfl,d7 (us:=[.str "pocket" tQkv11_0,.str "door" tQkv11_1]) oQkv11_ (by show 2<=Ub;decide) (.cons (.str _ _) (.cons (.str _ _) .nil))⟩ .nil)))))))))))),(TN.mpr ⟨zP (ls:=[("add",qQm0,.int 2 vQm0),("sub",qQm1,.int 2 vQm1),("mul",qQm2,.int 2 vQm2),("less",qQm3,.int 2 vQm3),("same",qQm4,.int 2 vQm4),("not",qQm5,.int 1 vQm5)]) (U8 X G wQm) oQm yQm (show ([.inr "add",.inr "sub",.inr "mul",.inr "less",.inr "same",.inr "not"]:List Key).Nodup by decide +kernel) (.cons ⟨rfl,qN (.int _ _)⟩ (.cons ⟨rfl,qN (.int _ _)⟩ (.cons ⟨rfl,qN (.int _ _)⟩ (.cons ⟨rfl,qN (.int _ _)⟩ (.cons ⟨rfl,qN (.int _ _)⟩ (.cons ⟨rfl,qN (.int _ _)⟩ .nil)))))),(by intro p m;cases m)⟩)⟩),Ge (adT:=adT aLine aDraft) (clT:=clT aLine aDraft) rfl rfl (TN.mpr ⟨⟨⟨xLine,yLine,zLine,vLine⟩,(TN.mpr ⟨fLine_place,(TN.mpr ⟨fLine_row,(TN.mpr ⟨fLine_words,(by intro p m;cases m)⟩)⟩)⟩)⟩,(TN.mpr ⟨⟨⟨xDraft,yDraft,zDraft,vDraft⟩,(TN.mpr ⟨fDraft_latest,(TN.mpr ⟨fDraft_leaps,(TN.mpr ⟨fDraft_names,(TN.mpr ⟨fDraft_rows,(TN.mpr ⟨fDraft_worths,(by intro p m;cases m)⟩)⟩)⟩)⟩)⟩)⟩,(by intro p m;cases m)⟩)⟩) (TN.mpr ⟨⟨U8 X G wLine,mkLine,kpLine, "@Line",cw,["place", "row", "words"],rfl,rfl⟩,(TN.mpr ⟨⟨U8 X G wDraft,mkDraft,kpDraft, "@Draft",bN,["latest", "leaps", "names", "rows", "worths"],rfl,rfl⟩,(by intro p m;cases m)⟩)⟩),λbase=>FP (mtT:=mtT) rfl (TN.mpr ⟨⟨fR 24 0,["self", "row", "text"],l6 (has _ _),λq e=>by cases (show TK (aLine,(["place", "row", "words"]:List Str))=TK q from e);exact M.1⟩,(TN.mpr ⟨⟨fR 24 1,["self"],pK (has _ _),λq e=>by cases (show TK (aLine,(["place", "row", "words"]:List Str))=TK q from e);exact M.2.1⟩,(TN.mpr ⟨⟨fR 24 2,["self", "fits"],oV (has _ _),λq e=>by cases (show TK (aLine,(["place", "row", "words"]:List Str))=TK q from e);exact M.2.2.1⟩,(TN.mpr ⟨⟨fR 24 3,["self"],rB (has _ _),λq e=>by cases (show TK (aLine,(["place", "row", "words"]:List Str))=TK q from e);exact M.2.2.2.1⟩,(TN.mpr ⟨⟨fR 25 0,["self"],kG (has _ _),λq e=>by cases (show TK (aDraft,(["latest", "leaps", "names", "rows", "worths"]:List Str))=TK q from e);exact M.2.2.2.2.1⟩,(TN.mpr ⟨⟨fR 25 1,["self", "sort", "in_turn"],lE (has _ _),λq e=>by cases (show TK (aDraft,(["latest", "leaps", "names", "rows", "worths"]:List Str))=TK q from e);exact M.2.2.2.2.2.1⟩,(TN.mpr ⟨⟨fR 25 2,["self"],iM (has _ _),λq e=>by cases (show TK (aDraft,(["latest", "leaps", "names", "rows", "worths"]:List Str))=TK q from e);exact M.2.2.2.2.2.2.1⟩,(TN.mpr ⟨⟨fR 25 3,["self", "name"],kO (has _ _),λq e=>by cases (show TK (aDraft,(["latest", "leaps", "names", "rows", "worths"]:List Str))=TK q from e);exact M.2.2.2.2.2.2.2.1⟩,(TN.mpr ⟨⟨fR 25 4,["self", "sort", "name"],sy (has _ _),λq e=>by cases (show TK (aDraft,(["latest", "leaps", "names", "rows", "worths"]:List Str))=TK q from e);exact M.2.2.2.2.2.2.2.2.1⟩,(TN.mpr ⟨⟨fR 25 5,["self", "boxes", "hands"],lb (has _ _),λq e=>by cases (show TK (aDraft,(["latest", "leaps", "names", "rows", "worths"]:List Str))=TK q from e);exact M.2.2.2.2.2.2.2.2.2.1⟩,(by intro p m;cases m)⟩)⟩)⟩)⟩)⟩)⟩)⟩)⟩)⟩)⟩) base⟩
 refine Lk T (zI (fnT:=fnT) rfl ?_) (has _ _).Hk rfl (Ho (has _ _) A.2.2.2.2.2.2.2.2.2.2.2.2.2.2.2.2.2.2.2.2.2.2.2.2.1) hfa;exact jC.go yj A λA=>jC.go yQ A λA=>jC.go Ew A λA=>jC.go tL A λA=>jC.go tF A λA=>jC.go Ii A λA=>jC.go uC A λA=>jC.go sf A λA=>jC.go wb A λA=>jC.go tZ A λA=>jC.go pU A λA=>jC.go mE A λA=>jC.go u0 A λA=>jC.go tT A λA=>jC.go sU A λA=>jC.go rR A λA=>jC.go pS A λA=>jC.go vG A λA=>jC.go vN A λA=>jC.go oR A λA=>jC.go kN A λA=>jC.go mf A λA=>jC.go q9 A λA=>jC.go t9 A λA=>jC.go Ho A λ_ p m=>nomatch m
theorem walk{aLine aDraft:Nat}{l:XA}{q:UP}{loose:List Str}{XP:(Str->Option TY)->Vx->Prop}{YP:U6->Vx->Prop}{d:DefRec}{K:Params->TQ}(hn:l.most=TK 63)(hdf:d.params.defaults=[])
  (hY: ∀(w:U6)(h:Vx),YP w h->(K w.params).In h)
  (F: ∀(w:U6)(mg:Str->Option TY)(fa:Uj)(h:Vx),(K w.params).In h->h.Ns UL mg->mg d.name=TK (.ref fa) ->
   ∃ fd:WD,(∀(s:Ua)(u:TY),YR s fd ⟨[u],[]⟩ [("_law_script",u)])/\ ∀ base:Vx,(K w.params).In base->base.Ns UL mg->gi l.prog w (K w.params) mg base mV (room+1) fa fd ["_law_script"] (jQ (K w.params) (tb aLine aDraft) (room+1) "law")) :
  aaV q loose XP YP l.row.toRowW d [] (λf vs=>aa6 f vs) :=
 L2.GH (n:=63) (k:=room+1) (x:= "_law_script") (CX:=λ_=>mV) (sp:=λw=>jQ (K w.params) (tb aLine aDraft) (room+1) "law") hn (by decide) hdf ⟨rfl,by decide,by decide,rfl⟩ hY F (λ_ H a ns hl hO hS=>Jj (AA aLine aDraft) H a ns hl hO hS) λ_ _ _ _ _ z=>z
end K04
open PySem PySem.W PyProof.Rows
set_option maxRecDepth 100000 in
set_option maxHeartbeats 0 in
theorem PySem.Challenge.cw_leastrecord_k04_written_and_read_holds : PySem.Challenge.rw_leastrecord_k04_written_and_read.Holds := by
 w_on;o_law;k_head;(case hw=>w_witness2)
 k_fill
 refine K04.walk (l:=PySem.Challenge.rw_leastrecord_k04_written_and_read) (aLine:=?aLine) (aDraft:=?aDraft) rfl rfl (λw h Y=>PySem.W.kIn_of Y) ?F
 case F =>
  intro w mg fa h KX G hmg
  refine' K04.all_mk KX G hmg ?A ?Z ?_ ?_ ?_ ?_ ?_ ?_ ?_ ?_ ?_ ?_ ?_ ?_ ?_ ?_ ?_ ?_ ?_ ?_ ?_ ?_ ?_ ?_ ?_ ?_ ?_ ?_ ?_ ?_ ?_ ?_ ?MM ?_ ?_ ?_ ?_ ?_ ?_ ?_ ?_ ?_ ?_ ?_ ?_ ?_ ?_ ?_ ?_ ?_ ?_ ?_ ?_ ?_ ?_
  case' A=>repeat' first | exact trivial | refine' YG (L2.NO KX G ?_ ?_ ?_ ?_) ?_
  case' MM=>repeat' first | exact trivial | refine' YG (P3.OB ?_ ?_ ?_ ?_ ?_) ?_
  case' Z=>repeat' first | exact trivial | refine' YG ?_ ?_
  all_goals try k_is
  all_goals try k_is
  all_goals exact rfl
end
end
end
