import PyProof.Rows.All
import Wide.All
import OpenK.AllK
import Wide.FinOn
import Lean
import PyProof.EqAt
import PyProof.EqKinds
import PyProof.TupleCall
import KE.KDictSum
import PyProof.AttrMissHeap
import PyProof.WalksMore
import KE.LcSums
import PyProof.AutoListH
import PyProof.ListMulRoad
import KE.KSortTup
import PyProof.ZipIter
import PyProof.Draws
import PyProof.EnumFor
import PyProof.ReprRoads
import PyProof.ListRange
import PyProof.ListNew
import PyProof.StrCalls2
import PyProof.CallStr
import PyProof.Rows.SetFrom
import PyProof.SetRoads
import PyProof.MeetsStr2
import PyProof.TupleOfGen
import PyProof.CollectWalk
import KE.KIntText
import PyProof.FString
import PyProof.EnumMake
import PySem.Challenge.RW_leastrecord_k71_records_as_lines
open Option renaming some->NG,none->NI,bind_some->OE,isSome_iff_exists->Pe,bind_eq_some_iff->PQ,map_eq_some_iff->PY,map_some->QB,isSome_map->SM,isSome_some->UM,getD_none->Vl,map_none->VI
open PySem.W renaming Frag->NH,findIn->Oc,fnOf->OA,keepIn->OZ,mroIn->O0,nsIn->O8,mg_of->Ph,emptyDict->Po,looks_findIn->PL,kitAny->P7,looks_mroIn->Ql,InstAt->Qo,cellsFrom_some->Qt,instObj->Qy,any_some->Q3,hasDictIn->RC,tailIn->RI,OpenLaw->R3,codeIn->R8,looks_clsIn->Sf,check_slot->Sx,clsIn->SV,Looks->SW,lookIn->TX,handedOut_of->T3,callWith_K->UH,codeRec_of->UI,looks_find->UO,mg_none_of->US,specialIn->UY,isFn->UZ,set_plain->U7,handedIn->Vg,plainGet->Vh,makesIn->VC,WalkO->VN,typeIn->VY,nsOkIn->V1,next->WD
open PySem renaming Value->NJ,wpAny_bind->NL,Shared->NO,Addr->NQ,sizeLine->NZ,wpAny_pure->N2,wpAny->Ob,model->Of,wpAny_mono->Oj,compareOp->Ol,Program->Om,foldedSetIterable->Oq,Expr->Ou,mainGlobals->Ox,starEach->Oy,World->OC,Around->OI,Heap->OQ,bootBuiltins->OX,wpAny_truthy_bool->O2,binaryOp->O3,assignEach->O5,Paired->Pd,compEnvC->Pg,wpAny_ite_split->Pj,behindInMarks->Pl,wpAny_holding->Pm,Stmt->Pn,wpAny_newObj_type->Pp,swapsWith->Pt,bindArgs->Pw,eval->Py,wpAny_loadPart_at->PM,call_meets->PU,cellsFrom->P4,FuncData->P5,attributeBase->Qe,mem_of_lookup->Qk,wpAny_field->Qr,PyData->QK,sysModules->QR,Scope->Q5,wpAny_execs_nil->Rj,wpAny_passesOwn->Rk,backTo->Ro,wpAny_load->Rp,wpAny_Call_Name_kw->Rr,tupleKind_room_in1->Rt,recursionLimit->RD,cLine->RE,plainObj_wpAny_Assign_Attribute->RP,assign->RT,typeIs_str->RU,holding->RZ,wpAny_standAt->R0,NameKind->R1,codeAny_call_builtin->R4,Within->Sg,codeAny->Si,setFlight->So,wpAny_call->Ss,wpAny_newFunctionEnv_cells->Su,wpAny_binaryOp_repeat_ref->SH,BindsTo->SJ,sliceBounds->SK,wpAny_pyIter_list->SO,wpAny_comprehension_free->SX,wpAny_execs_cons->S1,lastMarks->S2,noFill_tuple_add->S3,wpAny_callSpecial?_slot->S5,noteFrame->S6,pushCells->S7,codeAny_mono->Tg,IsPart->Th,getItem->Ti,typeIs_int->Tn,Builtin->To,notedBy->Tp,letOwnedTupleGo->Tw,pushCells_keeps->Tz,wpAny_isTrue_Compare1->TL,codeAny_call_function->TM,sizeLine_eq->TY,wpAny_setField->TZ,wpAny_loadPart->T1,newFunctionEnv->T4,intText?->T9,tupleKind->Uk,Keyword->Ul,callerA->Um,valueAt->Uo,wpAny_isSubtype_exc->Ut,swapsWithSole->Ux,swappedStores->Uy,seq_tuple_add->Uz,wpAny_attempt->UA,isTrue->UG,isInstance->UN,standAt->UW,wpAny_assign_Name->UX,concat_meets->U1,wpAny_sequenceKey->U2,wpAny_typeOf->U3,seqIndex_neg->U4,slot_list_getitem->U5,pyIter->Vd,rawInt->Ve,PassesOwn->Vf,wpAny_call_entry->Vk,wpAny_lookBehind->Vm,pastItsLine_dict->Vn,onTheHeap->Vo,callGetattribute->Vp,seqSlot_of->Vr,strValues->Vu,seqIndex_of->Vx,subscripted->Vy,keywordEach->Vz,atKey->VA,getAttrByItsOwn->VF,builtinsNs->VQ,Model->VR,wpAny_Name->VS,PlainAttrs->VU,call->VX,bindL->Wy,bindC->Wz,DictEntry->WA,setItem->WE,JoinOk->WK,Meets->WV
open List renaming length_cons->NK,replicate->NM,getElem?_eq_some_iff->NN,map_cons->NR,length_map->NU,mem_cons_of_mem->NW,length_append->NX,append_assoc->N0,mem_cons_self->N1,getElem?_append_left->N3,length_nil->N4,forall_mem_cons->N8,mem_append_right->N9,range->Oa,mem_singleton->Od,size_toArray->Oi,nil_append->Oo,mem_cons->Ot,append_nil->Ov,all_eq_true->Ow,getElem?_append_right->Oz,getElem?_eq_getElem->OB,getElem?_map->OD,map_nil->OG,filterMap_cons_some->OH,length_take->OJ,mem_append->ON,getElem?_set_self->OO,getElem?_set_ne->OP,mem_of_getElem?->OV,mem_append_left->O4,length_drop->O9,lookup_cons->Pa,mem_map->Pb,mem_of_find?_eq_some->Pc,getElem?_replicate->Pk,filterMap_eq_map'->Pr,set_append_right->Px,length_tail->PD,mem_range->PK,length_range->PN,mem_filter->PR,drop_eq_nil_of_le->PZ,any_cons->Qf,length_filterMap_le->Qj,length_pos_iff->Qm,cons_append->Qn,take_of_length_le->Qv,map_append->QC,all_cons->QD,getElem?_eq_none->QJ,mem_of_mem_tail->QX,mem_of_mem_take->QZ,mem_of_mem_drop->Q0,getElem?_eq_none_iff->Q7,drop_eq_getElem_cons->Q8,nodup_cons->Rl,foldl_cons->Rm,mem_filterMap->Rq,lookup->Rv,getElem?_cons_succ->Ry,getElem?_cons_zero->RB,find?_cons_of_neg->RM,filter_eq_nil_iff->RN,length_replicate->RQ,range'_succ->RY,eq_nil_of_length_eq_zero->R5,of_mem_zip->R7,filterMap_cons->Sd,map_map->Sn,filterMap_cons_none->S0,find?_cons_of_pos->Tv,find?_some->TH,head?_cons->TK,length_singleton->TN,filterMap_append->TV,drop_zero->T6,range'->Ue,replicate_succ->Uq,zipIdx_map_fst->Uu,getElem?_range->Uv,map_take->UB,find?_eq_none->UQ,filterMap_nil->UR,take_length->Vt,getElem_mem->Vv,not_mem_nil->Vw,length_set->VE,forIn_cons->VG,find?_cons->VH,range_succ->VJ,foldl->VW,find?_nil->V3,map_drop->Wv,length->WT
open PySem.Str renaming ofString->NP,ofString_eq_toList->Tr,length->Tu
open Nat renaming le_refl->NS,lt_of_lt_of_le->NV,le_trans->N5,ne_of_lt->Og,lt_irrefl->OT,zero_le->OU,not_lt->Qg,lt_or_ge->Qu,toDigits->Qw,le_succ->QV,mul_le_mul_right->QY,ne_of_gt->Q2,min_eq_right->Q4,toDigits_of_lt_base->Rz,sub_self->RO,le_of_lt->Sh,mul_comm->Sj,zero_add->Sl,le_succ_of_le->SN,ble->SR,min_le_right->S4,add_sub_cancel_left->S9,le_of_eq->Te,le_total->Tq,lt_of_succ_lt_succ->Ts,min_eq_left->TB,le_of_ble_eq_true->TU,pow_le_pow_right->Uc,add_mul->Ud,lt_of_le_of_lt->UL,sub_zero->Va,pow_succ->Vb,lt_succ_self->Vi,log2_lt->WX
open PySem.Heap renaming get?_push_of_some->NT,lt_size->NY,get?_push_size->Oh,get?_update_other->OY,size_push->O6,get?_update_self->P9,size_after_update->RH,SameBut->Td,get?_update_ne->Us,get?_push_at->U9
open Bool renaming false_ne_true->N6,and_eq_true->N7,false_eq_true->OL,false_and->Pq,and_false->P6,eq_iff_iff->Qc,not_eq_true->Qq,not_eq_true'->QM,and_self->Rg,true_and->Ri,or_eq_true->R9,and_eq_true_iff->T5,or_eq_false_iff->Ua,true_or->U6,and_true->Wt,or_false->Wu,or_true->WJ
open PySem.Value renaming ref->Oe,none->OW,builtin->P1,bool->Sq,int->Ui,str->Uj,type->VP,isStrOf->We,isInt->WN,bytes->WO,float->WQ
open Option.some renaming inj->OF,injEq->RJ
open PySem.W.Looks renaming here->OK
open PyProof.Rows renaming slot_tuple_getitem->OM,callWith_type1->QL,envOfC->QU,AllBare->Q1,joinOk_of_weight->R6,canLayAll_strs'->Sa,subscriptTail_builtinR->Tj,boot_isinstance->TJ,entry_tuple_getitem->Up,args_tuple_getitem->UJ,callWith_builtin1->Vj,IntsAre->VM,isStrOf->VO,boot_tuple->V2,digit_range->Ws,boot_list->WB,IsTup->WR,add_str->WW
open PySem.Builtin.Str renaming occurrences->OR,strKind->Uw
open Array renaming getElem?_eq_some_iff->OS,getElem?_eq_getElem->Qb,length_toList->Se,getD_eq_getD_getElem?->Sk,append_assoc->UE,toList_inj->Vs,toList->WC
open PySem.AutoSeq1 renaming wpAny_loadPart'->O1
open PySem.PyData renaming str->O7,depthAll->Pu,strOk->PJ,leavesShort->P8,list->Qs,leavesShortAll->RS,showable->Sb,eqv->Sy,showableAll->SD,canLayAll0->SQ,hasDictAll->SU,canLay0->Ub,hasDict->Ug,bulkAll->Uh,depth->Vc,bulk->VB,eqvAll->Ww
open PySem.Builtin.Tuple renaming tupleExact->Pf,tupleItemsOf->Sv,tupleTooMany->Sz,tupleIsExact->VZ
open False renaming elim->Pz
open PySem.Txt renaming split->PB,join->V0
open Ne renaming symm->PX
open PySem.F renaming slot_tuple_mul->P0,attr_ValueError->Qp,args_tuple_add_2->Ra,args_tuple_mul_2->Rh,entry_tuple_add->Rw,entry_tuple_mul->Rx,slot_tuple_add->RG,slot_str_eq_refl->SY,slot_tuple_rmul->S8,plainAttrs_list->Ta,plainAttrs_str->Tt,entry_bexc_ga->TQ,slot_int_rmul->TR,args_bexc_ga->T2,sub_str_dict->T7,slot_dict_eq->T8
open PySem.Builtin.Slice renaming slicePlaces->Qa,sliceAdjust->Q6,slicePartIndex->VD,sliceApplied->VT
open PySem.NumText renaming digitsVal->Qd,AllDigits->QQ
open PySem.NameKind renaming free->Qh,cell->Qi
open Int renaming emod_lt_of_pos->Qx,toNat_natCast->QN,emod_nonneg->Rn,eq_ofNat_of_zero_le->RA,toNat->Tc,zero_add->WM
open ForInStep renaming yield->Qz
open PySem.Obj renaming isFreed_of_fields->QH,mapFields->Rf,data_mapFields->Sw,mapSeq->UK
open PySem.Paired renaming length->Q9,snoc->WU
open PySem.Builtin.List renaming listTooLong->Rb
open Char renaming toNat->Ru
open Or renaming inr->RL,inl->RX
open And renaming intro->RW
open PySem.Calls renaming Name_function_global->Sr
open True renaming intro->Tf
open PySem.EntryCells renaming newEntry->Ur
open PySem.SeqAt.EqAt renaming int_str->UC,str_int->UD
open PySem.Code renaming quiet_builtin->UP,isFrame->WH
open PySem.Builtin.ObjectAttr renaming storeInOwnDict->UT
open Sum renaming inr->UU,inl->VL
open PySem.Heap.Ns1 renaming of_empty->U0
open PySem.Within renaming cons->U8,nil->W4
open PySem.Data renaming noConfusion->Vq
open PySem.EqNone renaming eq_none_none->V4,eq_none_bool->V5,eq_bool_none->V6,ne_none_none->V9,ne_none_bool->Wa,ne_bool_none->Wb,eq_none_int->Wf,eq_none_str->Wg,eq_int_none->Wh,eq_str_none->Wj,ne_none_int->Wl,ne_none_str->Wm,ne_int_none->Wn,ne_str_none->Wq
open PySem.EqMixed renaming eq_bool_str->V7,eq_str_bool->V8,ne_bool_str->Wc,ne_str_bool->Wd,eq_int_str->Wi,eq_str_int->Wk,ne_int_str->Wo,ne_str_int->Wr
open PySem.Builtin.Range renaming rangeSize->Wx
open PySem.Around renaming under->WG
open Nat.succ renaming inj->WI
open PySem.CmpOp renaming NotIn->WS
open PySem.Heap.IsSliceOf renaming new->WY
open PySem.SeqAt renaming EqAt->WZ
open PySem.Walks renaming list->W0
open List.Pairwise renaming nil->W2
open PySem.W.WData renaming int->W3
set_option genSizeOf false
set_option compiler.extract_closed false
set_option bootstrap.genMatcherCode false
namespace PySem.W.Fast
def tw13196233117267160269:=0
def tw16119183038602800977:=0
def tw15684715181758564967:=0
def tw6705060745818726477:=0
def tw17975378844974044008:=0
def tw12724514723568507386:=0
def tw15470581420133710145:=0
def tw726948148381824043:=0
def tw7172996589966896187:=0
def tw6295947427196679608:=0
def tw18013299539717894724:=0
def tw6808217301525530559:=0
def tw3965395820195073539:=0
def tw4221791301130174484:=0
def tw18181015254817792806:=0
def tw8379001775406212984:=0
def tw4656115366068195391:=0
def tw15915850674636932197:=0
def tw1915188192465347182:=0
def tw17594539969228324961:=0
def tw12787526104599889069:=0
def tw5156220361428602867:=0
def tw13612028696639414878:=0
def tw3326390388529058272:=0
def tw15501553654367311535:=0
def tw7475753732257960150:=0
def tw9139493295858513840:=0
def tw2820424378093953245:=0
def tw10371660884015373194:=0
def tw10081045960008959317:=0
def tw14594601463090132127:=0
def tw6230972631174038784:=0
def tw9333258842415876854:=0
def tw13099743840068442058:=0
def tw13830362147344834259:=0
def tw12935586183358496301:=0
def tw17073966126098244463:=0
def tw6734895387167121822:=0
def tw18326541357538134053:=0
def tw1198892439835986496:=0
def tw11129619063367405730:=0
def tw15714921880357797624:=0
def tw12054346199496474085:=0
def tw9080882854029699210:=0
def tw6193836448224928412:=0
def tw6950549607042203452:=0
def tw4980846306933638296:=0
def tw3025936885927885829:=0
def tw10918000456949021836:=0
def tw17233084531749794810:=0
def tw2268560047820432867:=0
def tw17506775150798456968:=0
def tw11878023984847485289:=0
def tw382561354592484193:=0
def tw509948693613048107:=0
def tw10150216728570168824:=0
def tw8034162478770010727:=0
def tw12780947288926090052:=0
def tw5486861833061690742:=0
def tw12574447148619122579:=0
def tw18020035880089033787:=0
def tw1472576624545855105:=0
def tw1530879159577717316:=0
def tw16538696644840395732:=0
def tw547966085665186007:=0
def tw5413607189755029199:=0
def tw17840700031039541412:=0
def tw14933621422197942836:=0
def tw2424774276325474307:=0
def tw15014323775971062528:=0
def tw13424197242078106532:=0
def tw11870353642131235830:=0
def tw10513671630406142889:=0
def tw4200725565832855306:=0
def tw17383840375922718103:=0
def tw12498781638867639124:=0
def tw2948061211712388010:=0
def tw9595750161251845625:=0
def tw3379270218587668219:=0
def tw2152698980963667168:=0
def tw12547057245234312624:=0
def tw17208302575822582180:=0
def tw8288029969532573181:=0
def tw7734313875544717134:=0
def tw13446566563096583149:=0
def tw16334776059100513507:=0
def tw12202256782276192946:=0
def tw15873731034877339664:=0
def tw13453971815968885868:=0
def tw3078846933316241677:=0
def tw12471080633540603138:=0
def tw2736191147992792866:=0
def tw11312650541036327040:=0
def tw3659936061962398621:=0
def tw2708379771659371143:=0
def tw5816162288872684798:=0
def tw8444793162336309320:=0
def tw3229730056909812028:=0
def tw275464387731699588:=0
def tw8212691646319190015:=0
def tw10396501578202901089:=0
def tw14835964387111357828:=0
def tw1838077193343389990:=0
def tw12478244442297747892:=0
def tw14311668885122586917:=0
def tw11919473969407941201:=0
def tw850316545411731257:=0
def tw13253278512635084519:=0
def tw2390242780238231789:=0
def tw587330995406602343:=0
def tw17794152709656945997:=0
def tw1841226507419078418:=0
def tw5135143132567274984:=0
def tw2884235980632129531:=0
def tw16342904541992599957:=0
def tw5047405771062781390:=0
def tw4374302809597639989:=0
def tw1201716409452373233:=0
def tw709162483428513015:=0
def tw17414045580753069368:=0
def tw11573083341947656164:=0
def tw9316262099869072297:=0
def tw13992660096087451188:=0
def tw15643860974178369148:=0
def tw10837115826596759890:=0
def tw5581022526434843835:=0
def tw17092081740779148265:=0
def tw8061719914929549884:=0
def tw11846848426527411376:=0
def tw12837522549119786120:=0
def tw4233366271729360548:=0
def tw6242817757882339181:=0
def tw1641122796129602604:=0
def tw1607286957394135627:=0
def tw15424812869920952187:=0
def tw13675364684570399531:=0
def tw6993446470330061832:=0
def tw2246623693658509250:=0
def tw3072890253064908959:=0
def tw9810611759400495969:=0
def tw17391613954101895818:=0
def tw16205154754119995980:=0
def tw10192049987862711825:=0
def tw1124444147222818405:=0
def tw16353362942774623007:=0
def tw7221077359470224343:=0
def tw1549578905577882124:=0
def tw11059293632395548321:=0
def tw8417742015388383711:=0
def tw1703574908611659739:=0
def tw11833447311963914090:=0
def tw7088268005683978603:=0
def tw7482332484625125741:=0
def tw2018817281620886613:=0
def tw9294703833952365151:=0
def tw1330475138815028097:=0
def tw9643401160645065656:=0
def tw12905128650355795910:=0
def tw17953965003000062571:=0
def tw17467266655018320567:=0
def tw15985707083385188255:=0
def tw15560601091885801994:=0
def tw7758916710151641884:=0
def tw2453565413756645709:=0
def tw13670543698216289462:=0
def tw7683418512351120930:=0
def tw8873395500976282292:=0
def tw11084191477072952287:=0
def tw7791317373822489261:=0
def tw17108543258753916720:=0
def tw12983753859876121811:=0
def tw12166403242734854894:=0
def tw17396037452014110427:=0
def tw14864545456807822987:=0
def tw9094149308140041590:=0
def tw853689462709785733:=0
def tw9996344377316908490:=0
def tw3578385001856378427:=0
def tw5912261270868920730:=0
def tw11271699052867246342:=0
def tw1711914525062850222:=0
end PySem.W.Fast
noncomputable section
set_option Elab.async false
set_option linter.all false
set_option maxRecDepth 100000
section
namespace L2
open PySem PySem.Spec PyProof.Rows
abbrev Key:=Sum Int Str
noncomputable def lR:Key->NJ->Bool
 | .inl k,v=>WN k v
 | .inr x,v=>We x v
noncomputable def LK(w:OC):Key->Int
 | .inl k=>hashInt k
 | .inr x=>hashStr w x
theorem bz: ∀{k v},lR k v=true->(∃ i t,k=VL i/\v=Ui i t)\/(∃ x t,k=UU x/\v=Uj x t)
 | .inl i,v,h=>by
  obtain⟨t,e⟩:=Value.isInt_shape (k:=i) (v:=v) h;exact .inl ⟨i,t,rfl,e⟩
 | .inr x,v,h=>by
  obtain⟨t,e⟩:=Value.isStrOf_shape (x:=x) (v:=v) h;exact .inr ⟨x,t,rfl,e⟩
theorem sR i t:lR (.inl i) (.int i t)=true:=by simp[lR,WN]
theorem uB x t:lR (.inr x) (.str x t)=true:=by simp[lR,We]
theorem GD a b:decide ((VL a:Key)=VL b)=(a == b):=by
 by_cases e:a=b
 . subst e;simp
 . simp_all
theorem CS a b:decide ((UU a:Key)=UU b)=decide (a=b):=by
 simp_all
theorem Gy(a:Int)(b:Str):decide ((VL a)=UU b)=false:=decide_eq_false (λq=>by cases q)
theorem DB(a:Str)(b:Int):decide ((UU a)=VL b)=false:=decide_eq_false (λq=>by cases q)
def bH prog w:PySem.KeyKind prog w Key where
 is:=lR
 hash:=LK w
 inj:=λv a b ha hb=>by
  rcases bz ha with⟨i,t,rfl,rfl⟩ | ⟨x,t,rfl,rfl⟩
  . rcases bz hb with⟨j,u,rfl,e⟩ | ⟨y,u,rfl,e⟩
    . injection e with e1 _;rw[e1]
    . nomatch e
  . rcases bz hb with⟨j,u,rfl,e⟩ | ⟨y,u,rfl,e⟩
    . nomatch e
    . injection e with e1 _;rw[e1]
 byValue:=λk v h=>by
  rcases bz h with⟨i,t,rfl,rfl⟩ | ⟨x,t,rfl,rfl⟩<;>rfl
 pyHash:=λhv h=>by
  rcases bz hv with⟨i,t,rfl,rfl⟩ | ⟨x,t,rfl,rfl⟩
  . exact wpAny_pyHash_int h
  . exact wpAny_pyHash_str h
 eqBool:=λhu hv h=>by
  rcases bz hu with⟨i,t,rfl,rfl⟩ | ⟨x,t,rfl,rfl⟩
  . rcases bz hv with⟨j,u,rfl,rfl⟩ | ⟨y,u,rfl,rfl⟩
    . rw[GD] at h;exact wpAny_eqBool_int h
    . rw[Gy] at h;exact UC i t y u _ _ _ _ h
  . rcases bz hv with⟨j,u,rfl,rfl⟩ | ⟨y,u,rfl,rfl⟩
    . rw[DB] at h;exact UD x t j u _ _ _ _ h
    . rw[CS] at h;exact wpAny_eqBool_str h
 «strs» :=λk x t v h=>by
  rcases bz h with⟨i,u,rfl,e⟩ | ⟨y,u,rfl,e⟩
  . nomatch e
  . injection e with e1 _;subst e1;cases v<;>rfl
theorem oA prog w i t:(bH prog w).is (.inl i) (.int i t)=true:=sR i t
theorem oa prog w x t:(bH prog w).is (.inr x) (.str x t)=true:=uB x t
inductive V where
 | non | bl (b:Bool) | int (i:Int) | str (x:Str) | byt (b:Array UInt8) | flt (b:UInt64) | ref (a:NQ) | ty (n:String)
 deriving DecidableEq
def RelV:V->NJ->Prop
 | .non,u=>u=OW
 | .bl b,u=>u=Sq b
 | .int i,u=> ∃ t,u=Ui i t
 | .str x,u=> ∃ t,u=Uj x t
 | .byt b,u=> ∃ t,u=WO b t
 | .flt b,u=> ∃ t,u=WQ b t
 | .ref a,u=>u=Oe a
 | .ty n,u=>u=VP n
abbrev Vals:List V->List NJ->Prop:=Pd RelV
theorem Vals.length(r:Vals xs us):xs.length=us.length:=Q9 r
theorem Vals.get: ∀{xs us}{i:Nat}{x},Vals xs us->xs[i]?=NG x-> ∃ u,us[i]?=NG u/\RelV x u
 | _,_,_,_,.nil,e=>by simp at e
 | _,_,0,_,.cons r _,e=>by simp at e;subst e;exact⟨_,rfl,r⟩
 | _,_,i+1,x,.cons _ t,e=>by
  obtain⟨u,h1,h2⟩:=Vals.get (i:=i) (x:=x) t (by simpa using e);exact⟨u,by simpa using h1,h2⟩
theorem Vals.set(r:RelV x u): ∀{xs us} i,Vals xs us->Vals (xs.set i x) (us.set i u)
 | _,_,_,.nil=> .nil
 | _,_,0,.cons _ t=> .cons r t
 | _,_,i+1,.cons q t=> .cons q (Vals.set r i t)
theorem Vals.append: ∀{xs ys us ws},Vals xs us->Vals ys ws->Vals (xs++ys) (us++ws)
 | _,_,_,_,.nil,s=>s
 | _,_,_,_,.cons r t,s=> .cons r (Vals.append t s)
theorem Vals.take: ∀{xs us} n,Vals xs us->Vals (xs.take n) (us.take n)
 | _,_,0,_=> .nil
 | _,_,_+1,.nil=> .nil
 | _,_,n+1,.cons r t=> .cons r (Vals.take n t)
theorem Vals.drop: ∀{xs us} n,Vals xs us->Vals (xs.drop n) (us.drop n)
 | _,_,0,r=>r
 | _,_,_+1,.nil=> .nil
 | _,_,n+1,.cons _ t=>Vals.drop n t
def eY:Option V->Option NJ->Prop
 | some v,NG u=>RelV v u
 | none,NI=>True
 | _,_=>False
def KV{κ}:=Pd λ(p: κ × V) (q: κ × NJ)=>p.1=q.1/\RelV p.2 q.2
noncomputable def kV:Key->V
 | .inl i=> .int i
 | .inr x=> .str x
inductive HO where
  | lst (xs:List V)
  | tup (xs:List V)
  | dK (kvs:List (Key × V)) | dT (kvs:List (List Key × V))
  | set (S:Int->Bool) (n:Nat)
  | ins (C dx:NQ) (fs:List (Str × V))
  | own (x:NQ)
  | xd (fs:List (Str × V))
  | met (f x:NQ)
  | rng (lo hi:Int)
  | dw (o:Obj) (u:HO)
  | tbl (ps:Array NJ)
  | ext (φ :OQ->Prop)
abbrev Hp:=NQ->Option HO
noncomputable def upd(H:Hp)(a:NQ)(o:HO):Hp:=λb=>if b=a then NG o else H b
theorem aT:upd H a o a=NG o:=by unfold upd;rw[if_pos rfl]
theorem aq(h:b≠a):upd H a o b=H b:=by unfold upd;rw[if_neg h]
theorem lW{H:Hp}{a b:NQ}{o u:HO}(h:H a=NG o)(h':H b=NG u)(d:o≠u):a≠b:=by
 intro e;subst e;rw[h] at h';exact d (OF h')
theorem ao{H:Hp}{a b:NQ}{o:HO}(h:H a=NG o)(h':H b=NI):a≠b:=by
 intro e;subst e;rw[h] at h';cases h'
def kP(h:OQ) a (items:Array NJ):= ∃ o,h.get? a=NG o/\o.cls= .type "tuple" /\ ∃ n,o.data= .seq items n/\o.dict=NI
theorem kP.tup{h a items}(x:kP h a items):WR h a items:=by obtain⟨o,e,c,n,d,_⟩:=x;exact⟨o,e,c,n,d⟩
theorem kP.new(h:OQ) items:kP (h.push { cls:= .type "tuple",data:= .seq items}) h.objs.size items:=⟨_,Oh _ rfl,rfl,_,rfl,rfl⟩
section
variable(P:Om)(w:OC)
def cj(H:Hp)(h:OQ)(a:NQ):HO->Prop
 | .lst xs=>xs.length<=NZ/\ ∃(ak:List NJ)(n:Nat),Vals xs ak/\h.get? a=NG { cls:= .type "list",data:= .seq ak.toArray n}
 | .tup xs=>xs.length<=NZ/\ ∃ ak ,Vals xs ak/\kP h a ak.toArray
 | .dK kvs=>kvs.length<=NZ/\(a == QR)=false/\ ∃ vs,KV kvs vs/\h.DictOf (bH P w) a vs
 | .dT kvs=>kvs.length<=NZ/\(a == QR)=false/\ ∃ xs ,
   Pd (λ(p) (q)=>p.1=q.1/\H q.2.1=NG (.tup (p.1.map kV))/\RelV p.2 q.2.2) kvs xs /\
   ∃ o es ep,h.get? a=NG o/\o.ExactDict/\o.data= .dict es ep/\es.toList=xs.map (entryOfKey (Uk (bH P w)))/\(xs.map (·.1)).Nodup
 | .set S n=>h.SetOf (intKind P w) a S n
 | .ins C dx fs=>H dx=NG (.own a)/\fs.length<=1000/\dx≠a/\h.get? a=NG (Qy C dx) /\
   ∃ mA,h.Ns1 dx mA/\(∀ f,eY (fs.lookup f) (mA f))/\Sg mA (fs.map (·.1))
 | .own _=> ∃ o,h.get? a=NG o
 | .xd fs=> ∃ mA,h.Ns1 a mA/\ ∀ f,eY (fs.lookup f) (mA f)
 | .rng lo hi=> ∃ t u v,h.get? a=NG { cls:= .type "range",data:= .fields #[.int lo t,.int hi u,.int 1 v]}
 | .dw o u=>h.get? a=NG o∧cj H h a u
 | .tbl ps=>h.get? a=NG { cls:= .none,data:= .fields ps}
 | .met f x=>h.get? a=NG (PySem.W.methodObj (.ref f) (.ref x))
 | .ext φ => φ h∧(∃ o,h.get? a=NG o)∧ ∀ h1 h2 , φ h1->(∀ o,h1.get? a=NG o->h2.get? a=NG o)-> φ h2
def fb H h:= ∀ a o,H a=NG o->cj P w H h a o
end
section
variable{P:Om}{w:OC}{H H':Hp}{h h':OQ}{a:NQ}{o:HO}
theorem cj.lt(x:cj P w H h a o):a < h.objs.size:=by
 cases o with
 | lst xs=>obtain⟨_,_,_,_,e⟩:=x;exact NY e
 | tup xs=>obtain⟨_,_,_,p⟩:=x;exact p.tup.lt
 | dK kvs=>obtain⟨_,_,_,_,o,_,_,e,_⟩:=x;exact NY e
 | dT kvs=>obtain⟨_,_,_,_,o,_,_,e,_⟩:=x;exact NY e
 | set S n=>obtain⟨o,_,_,_,e,_⟩:=x;exact NY e
 | ins C dx fs=>obtain⟨_,_,_,e,_⟩:=x;exact NY e
 | own y=>obtain⟨_,e⟩:=x;exact NY e
 | xd fs=>obtain⟨_,⟨_,_,_,e,_⟩,_⟩:=x;exact NY e
 | rng lo hi=>obtain⟨_,_,_,e⟩:=x;exact NY e
 | dw ob u=>obtain⟨e,_⟩:=x;exact NY e
 | tbl ps=>exact NY (show h.get? a=NG _ from x)
 | met f y=>exact NY (show h.get? a=NG _ from x)
 | ext φ =>obtain⟨_,⟨_,e⟩,_⟩:=x;exact NY e
theorem Paired.zc: ∀{l₁ l₂},Pd F l₁ l₂ ->(∀ a b,F a b->G a b)->Pd G l₁ l₂
 | _,_,.nil,_=> .nil
 | _,_,.cons r t,f=> .cons (f _ _ r) (Paired.zc t f)
theorem cj.iO(x:cj P w H h a o)(k: ∀ b u,(b=a\/H b=NG (.own a))->h.get? b=NG u->h'.get? b=NG u)
  (ho: ∀ b,H b=NG (.own a)->H' b=NG (.own a)) (ht: ∀ b xs,H b=NG (.tup xs)->H' b=NG (.tup xs)):cj P w H' h' a o:=by
 induction o with
 | lst xs=>obtain⟨z,ak,n,r,e⟩:=x;exact⟨z,ak,n,r,k _ _ (.inl rfl) e⟩
 | tup xs=>obtain⟨z,ak,r,ob,e,c⟩:=x;exact⟨z,ak,r,ob,k _ _ (.inl rfl) e,c⟩
 | dK kvs=>obtain⟨z,y,vs,r,ob,es,ep,e,c⟩:=x;exact⟨z,y,vs,r,ob,es,ep,k _ _ (.inl rfl) e,c⟩
 | dT kvs =>
  obtain⟨z,y,xs,r,ob,es,ep,e,c⟩:=x
  exact⟨z,y,xs,Paired.zc r λp q z=>⟨z.1,ht _ _ z.2.1,z.2.2⟩,ob,es,ep,k _ _ (.inl rfl) e,c⟩
 | set S n=>obtain⟨ob,es,ep,t,e,c⟩:=x;exact⟨ob,es,ep,t,k _ _ (.inl rfl) e,c⟩
 | ins C dx fs =>
  obtain⟨d,z,ne,e,mA,⟨od,es,ep,e2,c⟩,r⟩:=x
  exact⟨ho _ d,z,ne,k _ _ (.inl rfl) e,mA,⟨od,es,ep,k _ _ (.inr d) e2,c⟩,r⟩
 | own y=>obtain⟨ob,e⟩:=x;exact⟨ob,k _ _ (.inl rfl) e⟩
 | xd fs=>obtain⟨mA,⟨od,es,ep,e,c⟩,r⟩:=x;exact⟨mA,⟨od,es,ep,k _ _ (.inl rfl) e,c⟩,r⟩
 | rng lo hi=>obtain⟨t,u,v,e⟩:=x;exact⟨t,u,v,k _ _ (.inl rfl) e⟩
 | dw ob u ih=>obtain⟨e,q⟩:=x;exact⟨k _ _ (.inl rfl) e,ih q⟩
 | tbl ps =>
  have e:=x
  exact k a _ (.inl rfl) e
 | met f y =>
  have e:=x
  exact k a _ (.inl rfl) e
 | ext φ =>obtain⟨p,⟨o,e⟩,st⟩:=x;exact⟨st _ _ p λo q=>k _ _ (.inl rfl) q,⟨o,k _ _ (.inl rfl) e⟩,st⟩
theorem fb.lt(x:fb P w H h)(e:H a=NG o):a < h.objs.size:=(x a o e).lt
theorem fb.fresh(x:fb P w H h)(e:h.objs.size<=a):H a=NI:=by
 cases q:H a with
 | none=>rfl
 | some u=>exact absurd (NV (x.lt q) e) (OT _)
theorem fb.kept(x:fb P w H h)(k: ∀ b u,h.get? b=NG u->h'.get? b=NG u):fb P w H h':=λa o e =>
 (x a o e).iO (λb u _ q=>k b u q) (λ_ q=>q) λ_ _ q=>q
theorem fb.laid(x:fb P w H h)(k: ∀ b u,h.get? b=NG u->h'.get? b=NG u)(hp:h.objs.size<=a)(new:cj P w (upd H a o) h' a o):fb P w (upd H a o) h':=λb u e=>by
 have hn:=x.fresh hp;by_cases hb:b=a
 . subst hb;rw[aT] at e;cases e;exact new
 . rw[aq hb] at e;exact(x b u e).iO (λc v _ q=>k c v q) (λc q=>by rw[aq (ao q hn)];exact q) λc xs q=>by rw[aq (ao q hn)];exact q
end
def Rd(H:Hp) a u:=H a=NG u\/ ∃ o,H a=NG (.dw o u)
theorem Rd.of{H:Hp}{a:NQ}{u:HO}(h:H a=NG u):Rd H a u:= .inl h
theorem Rd.ok(r:Rd H a u)(x:fb P w H h):cj P w H h a u:=by
 rcases r with r | ⟨o,r⟩
 . exact x a u r
 . obtain⟨_,q⟩:=x a _ r;exact q
def Jl:Option HO->Prop
 | some (.lst _)=>True
 | some (.dK _)=>True
 | some (.dT _)=>True
 | some (.set _ _)=>True
 | some (.ins _ _ _)=>True
 | some (.ext _)=>True
 | _=>False
section
variable{P:Om}{w:OC}{H:Hp}{h h':OQ}{x e:NQ}{o':HO}
theorem fb.write(ok:fb P w H h)(mu:Jl (H x))(he:e=x\/H e=NG (.own x))(k: ∀ b u,b≠e->h.get? b=NG u->h'.get? b=NG u)(heo: ∃ u,h'.get? e=NG u)
  (new:cj P w (upd H x o') h' x o'):fb P w (upd H x o') h':=λb u q=>by
 have nown: ∀ c y,H c=NG (.own y)->c≠x:=λc y r z=>by subst z;rw[r] at mu;exact mu
 have ntup: ∀ c xs,H c=NG (.tup xs)->c≠x:=λc xs r z=>by subst z;rw[r] at mu;exact mu
 by_cases hb:b=x
 . subst hb;rw[aT] at q;cases q;exact new
 . rw[aq hb] at q;by_cases hbe:b=e
   . have q':H b=NG (.own x):=by
      rcases he with z | z
      . exact absurd (hbe.trans z) hb
      . rw[hbe];exact z
     rw[q] at q';cases q';obtain⟨v,hv⟩:=heo;exact⟨v,by rw[hbe];exact hv⟩
   . refine(ok b u q).iO (λc v hc r=>k c v ?_ r) (λc r=>by rw[aq (nown c b r)];exact r) λc xs r=>by rw[aq (ntup c xs r)];exact r
     rcases hc with rfl | hc
     . exact hbe
     . rintro rfl;rcases he with z | z
       . exact nown c b hc z
       . simp_all
end
structure Un(fs ex:List NQ)(H H':Hp)(h h':OQ):Prop where
 keep: ∀ b o,h.get? b=NG o->H b=NI->b ∉ fs->b ∉ ex->h'.get? b=NG o
 slot: ∀ b o,h.get? b=NG o->H b=NI->b∈fs->b ∉ ex-> ∃ sl,h'.get? b=NG { o with slots:=sl}
 free: ∀ b o,h.get? b=NG o->H b=NI->b ∉ ex->H' b=NI
 there: ∀ b o,h.get? b=NG o->b ∉ ex-> ∃ o',h'.get? b=NG o'
 fW: ∀ b xs,H b=NG (.tup xs)->H' b=NG (.tup xs)
 fm: ∀ b o u,H b=NG (.dw o u)->H' b=NG (.dw o u)
 gH: ∀ b ps,H b=NG (.tbl ps)-> ∃ more,H' b=NG (.tbl (ps++more))
section
variable{fs fs' ex ex':List NQ}{H H1 H2:Hp}{h h1 h2 h':OQ}{a x e:NQ}{o:HO}
theorem Un.any(u:Un fs ex H H1 h h1)(q:h.get? b=NG ob)(n:H b=NI)(hx:b ∉ ex): ∃ sl,h1.get? b=NG { ob with slots:=sl}:=by
 by_cases hb:b∈fs
 . exact u.slot b ob q n hb hx
 . exact⟨ob.slots,u.keep b ob q n hb hx⟩
theorem Un.trans(a:Un fs ex H H1 h h1)(b:Un fs ex H1 H2 h1 h2):Un fs ex H H2 h h2 where
 keep:=λc ob q n hc hx=>b.keep c ob (a.keep c ob q n hc hx) (a.free c ob q n hx) hc hx
 slot:=λc ob q n hc hx=>by
  obtain⟨sl,e1⟩:=a.slot c ob q n hc hx;obtain⟨sl',e2⟩:=b.slot c _ e1 (a.free c ob q n hx) hc hx;exact⟨sl',e2⟩
 free:=λc ob q n hx=>by
  obtain⟨o',e1⟩:=a.there c ob q hx;exact b.free c o' e1 (a.free c ob q n hx) hx
 there:=λc ob q hx=>by
  obtain⟨o',e1⟩:=a.there c ob q hx;exact b.there c o' e1 hx
 fW:=λc xs q=>b.fW c xs (a.fW c xs q)
 fm:=λc ob xs q=>b.fm c ob xs (a.fm c ob xs q)
 gH:=λc ps q=>by
  obtain⟨m1,e1⟩:=a.gH c ps q;obtain⟨m2,e2⟩:=b.gH c _ e1;exact⟨m1++m2,by rw[e2,UE]⟩
theorem Un.kept(k: ∀ b u,h.get? b=NG u->h'.get? b=NG u):Un fs ex H H h h' :=
 ⟨λb ob q _ _ _=>k b ob q,λb ob q _ _ _=>⟨ob.slots,k b ob q⟩,λ_ _ _ n _=>n,λb ob q _=>⟨ob,k b ob q⟩,λ_ _ q=>q,λ_ _ _ q=>q,λ_ ps q=>⟨#[],by simp_all⟩⟩
theorem Un.refl:Un fs ex H H h h:=Un.kept λ_ _ q=>q
theorem Un.laid(k: ∀ b u,h.get? b=NG u->h'.get? b=NG u)(hp:h.objs.size<=a)(hn:H a=NI):Un fs ex H (upd H a o) h h' where
 keep:=λb u q _ _ _=>k b u q
 slot:=λb u q _ _ _=>⟨u.slots,k b u q⟩
 free:=λb u q n _=>by rw[aq (Og (NV (NY q) hp))];exact n
 there:=λb u q _=>⟨u,k b u q⟩
 fW:=λb xs q=>by rw[aq (ao q hn)];exact q
 fm:=λb u xs q=>by rw[aq (ao q hn)];exact q
 gH:=λb ps q=>⟨#[],by rw[aq (ao q hn),q];simp⟩
theorem Un.write(mu:Jl (H x))(he:e=x\/H e=NG (.own x))(k: ∀ b u,b≠e->h.get? b=NG u->h'.get? b=NG u)(heo: ∃ u,h'.get? e=NG u):Un fs ex H (upd H x o) h h':=by
 have hx: ∀ b,H b=NI->b≠x:=λb n z=>by subst z;rw[n] at mu;exact mu
 have hb: ∀ b,H b=NI->b≠e:=λb n z=>by
  simp_all
 have hm: ∀ b u,H b=NG u-> ¬ Jl (NG u)->b≠x:=λb u q nm z=>by simp_all
 refine⟨λb u q n _ _=>k b u (hb b n) q,λb u q n _ _=>⟨u.slots,k b u (hb b n) q⟩,λb u q n _=>by rw[aq (hx b n)];exact n,λb u q _=>?_,
  λb xs q=>by rw[aq (hm b _ q λz=>z)];exact q,λb u xs q=>by rw[aq (hm b _ q λz=>z)];exact q,λb ps q=>⟨#[],by rw[aq (hm b _ q λz=>z),q];simp⟩⟩
 by_cases hbe:b=e
 . simp_all
 . exact⟨u,k b u hbe q⟩
end
noncomputable def yo(h:OQ)(H:Hp):=(Oa h.objs.size).filter λa=>(H a).isSome
def pj h H:=PySem.W.hideAll h (yo h H)
theorem sX h H:(pj h H).objs.size=h.objs.size:=PySem.W.hideAll_size _ _
theorem wA{h:OQ}{H:Hp}{b:NQ}{o:Obj}(e:h.get? b=NG o)(n:H b=NI):(pj h H).get? b=NG o :=
 PySem.W.hideAll_get _ e λhm=>by
  have q:=(PR.mp hm).2;rw[n] at q;simp at q
theorem yw(e:(pj h H).get? b=NG o):h.get? b=NG o/\H b=NI:=by
 have e':=PySem.W.of_hideAll (yo h H) e;refine⟨e',?_⟩;cases q:H b with
 | none=>rfl
 | some x =>
  have hm:b∈yo h H:=PR.mpr ⟨PK.mpr (NY e'),by simp[q]⟩
  have z:(pj h H).get? b=NI:=PySem.W.hideAll_none (yo h H) hm
  rw[z] at e;cases e
noncomputable def yX(g h:OQ) L:=(Oa h.objs.size).filterMap λa=>if a=L\/(g.get? a).isSome=true then NI else(h.get? a).map λo=>(a,o)
def rest g h L d:=(yX g h L).filter λp=>decide (p.1≠d)
structure Mod(K:NH)(mg:Str->Option NJ)(base:OQ):Prop where
 HJ:K.In base
 glob:base.Ns Ox mg
 blt: ∃ mb,base.Ns VQ mb/\ ∀ x:Str,x≠ "__name__" ->mb x=OX x
 nolimit:base.NoLimit
structure Cx where
 prog:Om
 w:OC
 K:NH
 mg:Str->Option NJ
 base:OQ
 A:OI
 N:List Str
 s₀ :NO
 H₀ :Hp
 env:Env
 outer:List Env
 stack:List Env
 ex:List NQ
 fn:Str->Bool
 calm:Bool
 pn:List (NQ × Obj)
 xe:NJ->NO->Prop
noncomputable def ez(l:List Env):=l.filterMap (·.frame)
abbrev Cx.fs(X:Cx):List NQ:=ez X.outer
def FK(sc:Q5) x:=sc.names.lookup x=NG .local\/sc.names.lookup x=NG .cell\/sc.names.lookup x=NG .free
def Loc(sc:Q5) x:=sc.names.lookup x=NG .local\/sc.names.lookup x=NG .cell
def Look(env:Env)(h:OQ)(m:Str->Option NJ) x (u:NJ) :=
 (env.kindOf x=NG .local/\m x=NG u)\/((env.kindOf x=NG .cell\/env.kindOf x=NG .free)/\ ∃ c,env.cells.lookup x=NG c/\h.IsCell c (NG u))
structure Cx.Ok(X:Cx):Prop where
 mod:Mod X.K X.mg X.base
 kind:X.env.scope.kind= .function
 glob:X.env.globals=Ox
 blt:X.env.builtins=VQ
 above:X.s₀.heap.objs.size<=X.env.locals
 inj: ∀ x y c,X.env.cells.lookup x=NG c->X.env.cells.lookup y=NG c->x=y
 has: ∀ x,(X.env.kindOf x=NG .cell\/X.env.kindOf x=NG .free)-> ∃ c,X.env.cells.lookup x=NG c
 yk: ∀ x c,X.fn x=true->X.env.cells.lookup x=NG c->X.s₀.heap.objs.size<=c
 hd:X.calm=true->X.A.handled=NI
 frames:X.A.frames=NG X.stack
 Cy:X.stack=X.outer\/(X.stack=X.env::X.outer/\X.env.frame=NG X.env.locals)
 E7: ∀ b∈X.ex,b≠X.env.locals/\ ∀ x c,X.env.cells.lookup x=NG c->c≠b
 bs: ∀ b o,X.base.get? b=NG o->X.s₀.heap.get? b=NG o/\X.H₀ b=NI
 rn:X.base.objs.size<=X.s₀.heap.objs.size
 pN: ∀ b o,X.base.get? b=NG o->b ∉ X.ex
 p6: ∀ b∈X.ex,b ∉ X.fs
 eV:X.s₀.heap.FunFrames X.base X.outer
 uJ: ∀ b∈X.fs,X.H₀ b=NI
structure Inv(X:Cx)(pins:List (NQ × Obj))(σ :List (Option V))(H:Hp)(s:NO):Prop where
 ok:X.Ok
 os:s.os=X.s₀.os
 bare:Q1 s.gens
 base:Un X.fs X.ex X.H₀ H X.s₀.heap s.heap
 loc: ∃ m,s.heap.Ns X.env.locals m/\ ∀(i:Nat)(x:Str)(v:V),X.N[i]?=NG x-> σ[i]?=NG (NG v)->FK X.env.scope x-> ∃ u,RelV v u/\Look X.env s.heap m x u
 cell: ∀ x c,X.env.cells.lookup x=NG c-> ∃ v,s.heap.IsCell c v
 free:H X.env.locals=NI
 cW: ∀ x c,X.env.cells.lookup x=NG c->H c=NI
 pin: ∀ p∈X.pn++pins,s.heap.get? p.1=NG p.2/\H p.1=NI/\p.1≠X.env.locals/\p.1 ∉ X.fs/\ ∀ v,p.2.data≠ .cell v
 aW:fb X.prog X.w H s.heap
 len: σ.length=X.N.length
section
variable{X:Cx}{pins:List (NQ × Obj)}{σ :List (Option V)}{H H':Hp}{s:NO}{h':OQ}
theorem Cx.Ok.Lo(ok:X.Ok)(e:X.base.get? b=NG o):b ∉ X.fs:=λhb=>by
 have:=(ok.eV.mem hb).1;rw[e] at this;cases this
theorem Inv.bs(I:Inv X pins σ H s): ∀ b o,X.base.get? b=NG o->s.heap.get? b=NG o/\H b=NI:=λb o e =>
 ⟨I.base.keep b o (I.ok.bs b o e).1 (I.ok.bs b o e).2 (I.ok.Lo e) (I.ok.pN b o e),I.base.free b o (I.ok.bs b o e).1 (I.ok.bs b o e).2 (I.ok.pN b o e)⟩
theorem Inv.bk(I:Inv X pins σ H s): ∀ b o,X.base.get? b=NG o->s.heap.get? b=NG o:=λb o e=>(I.bs b o e).1
theorem Inv.mod(I:Inv X pins σ H s):Mod X.K X.mg X.base:=I.ok.mod
theorem Inv.qA(I:Inv X pins σ H s):X.K.In s.heap:=I.ok.mod.HJ.keeps I.bk
theorem Inv.nolimit(I:Inv X pins σ H s):s.heap.NoLimit:=I.ok.mod.nolimit.keeps I.bk
theorem Inv.fr(I:Inv X pins σ H s): ∃ m,Fr X.base X.env.locals s.heap m :=
 by obtain⟨m,hn,_⟩:=I.loc;exact⟨m,hn,I.bk,N5 I.ok.rn I.ok.above⟩
theorem Inv.lt(I:Inv X pins σ H s):X.env.locals < s.heap.objs.size:=by obtain⟨_,hn,_⟩:=I.loc;exact hn.lt
theorem Inv.sz(I:Inv X pins σ H s):X.s₀.heap.objs.size<=s.heap.objs.size:=N5 I.ok.above (Sh I.lt)
theorem Inv.Ar(I:Inv X pins σ H s){a:NQ}(h:s.heap.objs.size<=a):a ∉ X.fs:=λhb=>by
 obtain⟨_,o,ho,_⟩:=I.ok.eV.mem hb;exact absurd (NV (NY ho) (N5 I.sz h)) (OT _)
theorem Inv.xH(I:Inv X pins σ H s): ∀ x c,X.env.cells.lookup x=NG c->c≠X.env.locals:=λx c e z=>by
 obtain⟨v,o,ho,hd⟩:=I.cell x c e;obtain⟨m,⟨o',es,ep,ho',hd',_⟩,_⟩:=I.loc;rw[z,ho'] at ho;cases ho;rw[hd'] at hd;cases hd
theorem Inv.eV(I:Inv X pins σ H s):s.heap.FunFrames X.base X.outer:=by
 have all: ∀ l,(∀ b∈ez l,b∈X.fs)->X.s₀.heap.FunFrames X.base l->s.heap.FunFrames X.base l:=by
  intro l
  induction l with
  | nil=>intro _ _;trivial
  | cons env r ih =>
   intro hs hl
   obtain⟨hk,⟨L,o,hf,hn,ho,hd⟩,hr⟩:=hl
   have hL:=hs L (by unfold ez;rw[Sd,hf];exact N1)
   obtain⟨sl,e⟩:=I.base.slot L o ho (I.ok.uJ L hL) hL λz=>I.ok.p6 L z hL
   exact⟨hk,⟨L,_,hf,hn,e,hd⟩,ih (λb hb=>hs b (by unfold ez;rw[Sd,hf];exact NW _ hb)) hr⟩
 exact all X.outer (λ_ hb=>hb) I.ok.eV
theorem Inv.stack(I:Inv X pins σ H s):s.heap.FunFrames X.base X.stack:=by
 rcases I.ok.Cy with e | ⟨e,hf⟩
 . rw[e];exact I.eV
 . rw[e];obtain⟨m,hn,_⟩:=I.loc;refine .cons (by rw[I.ok.kind];decide) hf hn ?_ I.eV;exact Heap.get?_none_of_le (N5 I.ok.rn I.ok.above)
theorem Inv.gB(I:Inv X pins σ H s): ∀ b∈ez X.stack,b∈X.env.locals::X.fs:=λb hb=>by
 rcases I.ok.Cy with e | ⟨e,hf⟩
 . rw[e] at hb;exact NW _ hb
 . rw[e] at hb;unfold ez at hb;rw[Sd,hf] at hb;exact hb
theorem Inv.hZ(I:Inv X pins σ H s): ∀ b∈ez X.stack,H b=NI:=λb hb=>by
 rcases Ot.mp (I.gB b hb) with e | hb
 . rw[e];exact I.free
 . obtain⟨_,o,ho,_⟩:=I.ok.eV.mem hb;exact I.base.free b o ho (I.ok.uJ b hb) λz=>I.ok.p6 b z hb
theorem Inv.step{ch:List NQ}(I:Inv X pins σ H s)
  (hch: ∀ b∈ch,(b∈X.ex\/X.s₀.heap.objs.size<=b)/\b≠X.env.locals/\(∀ x c,X.env.cells.lookup x=NG c->c≠b)/\ ∀ p∈X.pn++pins,p.1≠b)
  (keep: ∀ b o,b≠X.env.locals->b ∉ X.fs->b ∉ ch->s.heap.get? b=NG o->H b=NI->h'.get? b=NG o)
  (slot: ∀ b o,b≠X.env.locals->b∈X.fs->b ∉ ch->s.heap.get? b=NG o->H b=NI-> ∃ sl,h'.get? b=NG { o with slots:=sl}) (free: ∀ b o,b ∉ ch->s.heap.get? b=NG o->H b=NI->H' b=NI)
  (there: ∀ b o,b ∉ ch->s.heap.get? b=NG o-> ∃ o',h'.get? b=NG o')
  (fW: ∀ b xs,H b=NG (.tup xs)->H' b=NG (.tup xs)) (fm: ∀ b o u,H b=NG (.dw o u)->H' b=NG (.dw o u)) (gH: ∀ b ps,H b=NG (.tbl ps)-> ∃ more,H' b=NG (.tbl (ps++more)))
  (ns: ∀ m,s.heap.Ns X.env.locals m->h'.Ns X.env.locals m) (aW:fb X.prog X.w H' h') (hg:Q1 g') :
  Inv X pins σ H' { s with heap:=h',gens:=g',drawn:=d',toks:=t'}:=by
 have neL: ∀ b o,X.s₀.heap.get? b=NG o->b≠X.env.locals:=λb o e=>Og (NV (NY e) I.ok.above);have neC: ∀ b o,X.s₀.heap.get? b=NG o->b ∉ X.ex->b ∉ ch:=λb o e hx hb=>by
  rcases(hch b hb).1 with z | z
  . exact hx z
  . exact absurd (NV (NY e) z) (OT _)
 have cellK: ∀ x c,X.env.cells.lookup x=NG c-> ∀ v,s.heap.IsCell c v->h'.IsCell c v:=λx c e v ⟨o,ho,hd⟩=>by
  have nch:=λz=>(hch c z).2.2.1 x c e rfl;by_cases hc:c∈X.fs
  . obtain⟨sl,q⟩:=slot c o (I.xH x c e) hc nch ho (I.cW x c e);exact⟨_,q,hd⟩
  . exact⟨o,keep c o (I.xH x c e) hc nch ho (I.cW x c e),hd⟩
 refine⟨I.ok,I.os,hg,⟨λb o e n hb hx=>?_,λb o e n hb hx=>?_,λb o e n hx=>?_,λb o e hx=>?_,λb xs e=>fW b xs (I.base.fW b xs e),λb o xs e=>fm b o xs (I.base.fm b o xs e),λb ps e=>?_⟩,?_,λx c e=>?_,?_,λx c e=>?_,λp hp=>?_,aW,I.len⟩
 . exact keep b o (neL b o e) hb (neC b o e hx) (I.base.keep b o e n hb hx) (I.base.free b o e n hx)
 . obtain⟨sl,e1⟩:=I.base.slot b o e n hb hx;obtain⟨sl',e2⟩:=slot b _ (neL b o e) hb (neC b o e hx) e1 (I.base.free b o e n hx);exact⟨sl',e2⟩
 . obtain⟨o',e1⟩:=I.base.there b o e hx;exact free b o' (neC b o e hx) e1 (I.base.free b o e n hx)
 . obtain⟨o',e1⟩:=I.base.there b o e hx;exact there b o' (neC b o e hx) e1
 . obtain⟨m1,e1⟩:=I.base.gH b ps e;obtain⟨m2,e2⟩:=gH b _ e1;exact⟨m1++m2,by rw[e2,UE]⟩
 . obtain⟨m,hn,hl⟩:=I.loc;refine⟨m,ns m hn,λi x v e1 e2 e3=>?_⟩;obtain⟨u,r,l⟩:=hl i x v e1 e2 e3;refine⟨u,r,?_⟩;rcases l with l | ⟨k,c,e,z⟩
   . exact .inl l
   . exact .inr ⟨k,c,e,cellK x c e _ z⟩
 . obtain⟨v,z⟩:=I.cell x c e;exact⟨v,cellK x c e v z⟩
 . obtain⟨m,⟨o,_,_,ho,_⟩,_⟩:=I.loc;exact free _ o (λz=>(hch _ z).2.1 rfl) ho I.free
 . obtain⟨v,o,ho,hd⟩:=I.cell x c e;exact free c o (λz=>(hch c z).2.2.1 x c e rfl) ho (I.cW x c e)
 . obtain⟨e,n,ne,nf,d⟩:=I.pin p hp;have nch:=λz=>(hch p.1 z).2.2.2 p hp rfl;exact⟨keep p.1 p.2 ne nf nch e n,free p.1 p.2 nch e n,ne,nf,d⟩
theorem Inv.un(I:Inv X pins σ H s)(u:Un X.fs [] H H' s.heap h')(aW:fb X.prog X.w H' h'):Inv X pins σ H' { s with heap:=h',toks:=t'}:=by
 obtain⟨m,⟨o,es,ep,ho,r⟩,_⟩:=id I.loc;obtain⟨sl,hL⟩:=u.any ho I.free (by simp);exact I.step (g':=s.gens) (d':=s.drawn) (ch:=[]) (λ_ z=>by cases z) (λb o _ hb _ e n=>u.keep b o e n hb (by simp)) (λb o _ hb _ e n=>u.slot b o e n hb (by simp)) (λb o _ e n=>u.free b o e n (by simp)) (λb o _ e=>u.there b o e (by simp)) u.fW u.fm u.gH (λm' hm=>by
  obtain⟨o',es',ep',ho',r'⟩:=hm;rw[ho] at ho';cases ho';exact⟨_,es',ep',hL,r'⟩) aW I.bare
theorem Inv.call(I:Inv X pins σ H s)(u:Un (ez X.stack) ch H H' s.heap h')(aW:fb X.prog X.w H' h')(hg:Q1 g')
  (hch: ∀ b∈ch,(b∈X.ex\/X.s₀.heap.objs.size<=b)/\b≠X.env.locals/\(∀ x c,X.env.cells.lookup x=NG c->c≠b)/\ ∀ p∈X.pn++pins,p.1≠b) :
  Inv X pins σ H' { s with heap:=h',gens:=g',drawn:=d',toks:=t'}:=by
 obtain⟨m,⟨o,es,ep,ho,r⟩,_⟩:=id I.loc;obtain⟨sl,hL⟩:=u.any ho I.free λz=>(hch _ z).2.1 rfl;exact I.step (ch:=ch) hch (λb o hL hb hc e n=>u.keep b o e n (λz=>(Ot.mp (I.gB b z)).elim hL hb) hc) (λb o _ _ hc e n=>u.any e n hc) (λb o hc e n=>u.free b o e n hc) (λb o hc e=>u.there b o e hc) u.fW u.fm u.gH (λm' hm=>by
  obtain⟨o',es',ep',ho',r'⟩:=hm;rw[ho] at ho';cases ho';exact⟨_,es',ep',hL,r'⟩) aW hg
theorem Inv.turned(I:Inv X pins σ H s)(k: ∀ b o,b≠it->s.heap.get? b=NG o->h'.get? b=NG o)(hn:H it=NI)(hL:it≠X.env.locals)
  (h1:it∈X.ex\/X.s₀.heap.objs.size<=it) (h2: ∀ x c,X.env.cells.lookup x=NG c->c≠it) (h3: ∀ p∈X.pn++pins,p.1≠it):Inv X pins σ H { s with heap:=h',toks:=t'}:=by
 have nit: ∀ b u,H b=NG u->b≠it:=λb u e z=>by simp_all
 refine I.step (g':=s.gens) (d':=s.drawn) (ch:=[it]) (λb hb=>?_) (λb o _ _ hc e _=>k b o (λz=>hc (by simp[z])) e) (λb o _ _ hc e _=>⟨o.slots,k b o (λz=>hc (by simp[z])) e⟩) (λ_ _ _ _ n=>n)
  (λb o hc e=>⟨o,k b o (λz=>hc (by simp[z])) e⟩) (λ_ _ e=>e) (λ_ _ _ e=>e) (λb ps e=>⟨#[],by simp_all⟩) (λm hm=>?_) (λb u e=>?_) I.bare
 . have e:b=it:=by simpa using hb
   subst e;exact⟨h1,hL,h2,h3⟩
 . obtain⟨o,es,ep,ho,r⟩:=hm;exact⟨o,es,ep,k _ o (PX hL) ho,r⟩
 . refine(I.aW b u e).iO (λc v hc q=>k c v ?_ q) (λ_ q=>q) λ_ _ q=>q;rcases hc with z | z
   . rw[z];exact nit b u e
   . exact nit c _ z
theorem Inv.tok(I:Inv X pins σ H s) t:Inv X pins σ H { s with toks:=t}:=I.un (h':=s.heap) (t':=t) Un.refl I.aW
theorem Inv.kept(I:Inv X pins σ H s)(k: ∀ b u,s.heap.get? b=NG u->h'.get? b=NG u):Inv X pins σ H { s with heap:=h',toks:=t'}:=I.un (Un.kept k) (I.aW.kept k)
theorem Inv.laid{a:NQ}(I:Inv X pins σ H s)(k: ∀ b u,s.heap.get? b=NG u->h'.get? b=NG u)(hp:s.heap.objs.size<=a)(new:cj X.prog X.w (upd H a o) h' a o) :
  Inv X pins σ (upd H a o) { s with heap:=h',toks:=t'}:=I.un (Un.laid k hp (I.aW.fresh hp)) (I.aW.laid k hp new)
theorem Inv.write(I:Inv X pins σ H s)(mu:Jl (H x))(he:e=x∨H e=NG (.own x))(k: ∀ b u,b≠e->s.heap.get? b=NG u->h'.get? b=NG u)(heo: ∃ u,h'.get? e=NG u)
  (new:cj X.prog X.w (upd H x o) h' x o):Inv X pins σ (upd H x o) { s with heap:=h',toks:=t'}:=I.un (Un.write mu he k heo) (I.aW.write mu he k heo new)
theorem Inv.weak(I:Inv X pins σ H s)(hl: σ'.length= σ.length)(w: ∀ (i:Nat) v, σ'[i]?=NG (NG v)-> σ[i]?=NG (NG v)):Inv X pins σ' H s :=
 ⟨I.ok,I.os,I.bare,I.base,by obtain ⟨m,hn,hl'⟩:=I.loc;exact ⟨m,hn,λi x v e1 e2 e3=>hl' i x v e1 (w i v e2) e3⟩,I.cell,I.free,I.cW,I.pin,I.aW,hl.trans I.len⟩
theorem Inv.cP(I:Inv X pins σ H s)(h: ∀ p∈pins',s.heap.get? p.1=NG p.2∧H p.1=NI∧p.1≠X.env.locals∧p.1 ∉ X.fs∧ ∀ v,p.2.data≠ .cell v):Inv X pins' σ H s :=
 ⟨I.ok,I.os,I.bare,I.base,I.loc,I.cell,I.free,I.cW,λp hp=>(ON.mp hp).elim (λz=>I.pin p (O4 _ z)) (h p),I.aW,I.len⟩
theorem j8{N:List Str}(hN:N.Nodup){ j:Nat}(a:N[i]?=NG x)(b:N[j]?=NG x):i=j:=by
 obtain⟨h1,e1⟩:=NN.mp a;obtain⟨h2,e2⟩:=NN.mp b;exact(List.getElem_inj hN).mp (e1.trans e2.symm)
theorem lx{M:VR}{A:OI}{E:NJ->NO->Prop}{i:Nat}{x:Str}{v:V}{u:NJ}{Q:Unit->NO->Prop}(I:Inv X pins σ H s)(hN:X.N.Nodup)(hi:X.N[i]?=NG x)(hx:Loc X.env.scope x)(r:RelV v u)
  (h: ∀ s',Inv X pins (σ.set i (NG v)) H s'->(∃ a,Td a s.heap s'.heap/\(a=X.env.locals\/X.env.cells.lookup x=NG a))->Q () s') (hf:X.fn x=true\/X.env.scope.names.lookup x=NG .local:=by first | exact .inl rfl | exact .inr rfl | assumption):Ob M A (storeName X.env x u) Q E s:=by
 obtain⟨m,hn,hl⟩:=id I.loc;have hcls:(X.env.scope.kind == .class||(X.env.scope.kind == .module&&X.env.locals !=X.env.globals))=false:=by rw[I.ok.kind];rfl
 have hiσ :i < σ.length:=by rw[I.len];exact(NN.mp hi).1
 have xH:=I.xH;have tracked: ∀{a:NQ}{h':OQ},(∃ o,s.heap.get? a=NG o/\H a=NI)->Td a s.heap h'->fb X.prog X.w H h':=λ{a h'} ha hs b ob e=>by
  obtain⟨_,_,hfree⟩:=ha;refine(I.aW b ob e).iO (λc w' hc q=>(hs.2 c ?_).trans q) (λ_ q=>q) λ_ _ q=>q;rintro rfl;rcases hc with rfl | hc
  . simp_all
  . simp_all
 rcases hx with hk | hk
 . refine wpAny_storeName_local hk hn (λh' hn' hs=>?_) hcls;obtain⟨oL,_,_,hoL,_⟩:=id hn;refine h _ ⟨I.ok,I.os,I.bare,⟨λb o e n hb hx=>?_,λb o e n hb hx=>?_,I.base.free,λb o e hx=>?_,I.base.fW,I.base.fm,I.base.gH⟩,⟨_,hn',λj y v' e1 e2 e3=>?_⟩,λy c e=>?_,I.free,I.cW,λp hp=>?_,tracked ⟨oL,hoL,I.free⟩ hs,by simpa using I.len⟩ ⟨_,hs,.inl rfl⟩
   . exact(hs.2 b (Og (NV (NY e) I.ok.above))).trans (I.base.keep b o e n hb hx)
   . obtain⟨sl,e1⟩:=I.base.slot b o e n hb hx;exact⟨sl,(hs.2 b (Og (NV (NY e) I.ok.above))).trans e1⟩
   . obtain⟨o',e1⟩:=I.base.there b o e hx;exact⟨o',(hs.2 b (Og (NV (NY e) I.ok.above))).trans e1⟩
   . by_cases hj:j=i
     . subst hj;rw[hi] at e1;cases e1;rw[OO hiσ] at e2;cases e2;exact⟨u,r,.inl ⟨hk,by simp⟩⟩
     . rw[OP (PX hj)] at e2;obtain⟨u',r',q⟩:=hl j y v' e1 e2 e3;refine⟨u',r',?_⟩;rcases q with⟨k,e⟩ | ⟨k,c,e,z⟩
       . refine .inl ⟨k,?_⟩;have:y≠x:=λe=>hj (j8 hN e1 (e ▸ hi));simp[this,e]
       . exact .inr ⟨k,c,e,z.sameBut hs (xH y c e)⟩
   . obtain⟨w',z⟩:=I.cell y c e;exact⟨w',z.sameBut hs (xH y c e)⟩
   . obtain⟨e,n,ne,nf,d⟩:=I.pin p hp;exact⟨(hs.2 p.1 ne).trans e,n,ne,nf,d⟩
 . have hfn:X.fn x=true:=by
    simp_all
   obtain⟨c,hc⟩:=I.ok.has x (.inl hk);obtain⟨w',z⟩:=I.cell x c hc;refine wpAny_storeName_cell I.ok.kind hk hc z (λh' hc' hs=>?_);obtain⟨oc,hoc,hocd⟩:=id z;refine h { s with heap:=h'} ⟨I.ok,I.os,I.bare,⟨λb o e n hb hx=>?_,λb o e n hb hx=>?_,I.base.free,λb o e hx=>?_,I.base.fW,I.base.fm,I.base.gH⟩,⟨m,hn.sameBut hs (PX (xH x c hc)),λj y v' e1 e2 e3=>?_⟩,λy c' e=>?_,I.free,I.cW,λp hp=>?_,tracked ⟨oc,hoc,I.cW x c hc⟩ hs,by simpa using I.len⟩ ⟨c,hs,.inr hc⟩
   . exact(hs.2 b (Og (NV (NY e) (I.ok.yk x c hfn hc)))).trans (I.base.keep b o e n hb hx)
   . obtain⟨sl,e1⟩:=I.base.slot b o e n hb hx;exact⟨sl,(hs.2 b (Og (NV (NY e) (I.ok.yk x c hfn hc)))).trans e1⟩
   . obtain⟨o',e1⟩:=I.base.there b o e hx;exact⟨o',(hs.2 b (Og (NV (NY e) (I.ok.yk x c hfn hc)))).trans e1⟩
   . by_cases hj:j=i
     . subst hj;rw[hi] at e1;cases e1;rw[OO hiσ] at e2;cases e2;exact⟨u,r,.inr ⟨.inl hk,c,hc,hc'⟩⟩
     . rw[OP (PX hj)] at e2;obtain⟨u',r',q⟩:=hl j y v' e1 e2 e3;refine⟨u',r',?_⟩;rcases q with q | ⟨k,c',e,z'⟩
       . exact .inl q
       . refine .inr ⟨k,c',e,z'.sameBut hs ?_⟩;rintro rfl;exact hj (j8 hN e1 (I.ok.inj _ _ _ e hc ▸ hi))
   . by_cases hcc:c'=c
     . subst hcc;exact⟨_,hc'⟩
     . obtain⟨w2,z2⟩:=I.cell y c' e;exact⟨w2,z2.sameBut hs hcc⟩
   . obtain⟨e,n,ne,nf,d⟩:=I.pin p hp;refine⟨(hs.2 p.1 ?_).trans e,n,ne,nf,d⟩;intro q;rw[q,hoc] at e;have q':=OF e;exact d w' (by rw[<- q'];exact hocd)
theorem jG{M:VR}{A:OI}{E:NJ->NO->Prop}{i:Nat}{x:Str}{v:V}{u:NJ}{Q:Unit->NO->Prop}(I:Inv X pins σ H s)(hN:X.N.Nodup)(hi:X.N[i]?=NG x)(hx:Loc X.env.scope x)(r:RelV v u)
  (h: ∀ s',Inv X pins (σ.set i (NG v)) H s'->Q () s') (hf:X.fn x=true\/X.env.scope.names.lookup x=NG .local:=by first | exact .inl rfl | exact .inr rfl | assumption):Ob M A (storeName X.env x u) Q E s :=
 lx I hN hi hx r (λs' I' _=>h s' I') hf
theorem Inv.lN(I:Inv X pins σ H s)(ho:s'.os=s.os)(u:Un (ez X.stack) ch H H' s.heap s'.heap)(aW:fb X.prog X.w H' s'.heap)(hg:Q1 s'.gens)
  (hch: ∀ b∈ch,(b∈X.ex\/X.s₀.heap.objs.size<=b)/\b≠X.env.locals/\(∀ x c,X.env.cells.lookup x=NG c->c≠b)/\ ∀ p∈X.pn++pins,p.1≠b):Inv X pins σ H' s':=by
 obtain⟨h',g',d',t',o'⟩:=s';have e:=ho;subst e;exact I.call (g':=g') (t':=t') (d':=d') u aW hg hch
end
abbrev XK:=NJ->Option NQ->Hp->Prop
abbrev St:=List (Option V)
abbrev VK:=V->Hp->Prop
abbrev TE:=St->Hp->VK->Prop
abbrev TT:=St->Hp->(Bool->Hp->Prop)->Prop
abbrev TA:=St->Hp->(List V->Hp->Prop)->Prop
structure Ends where
 nx:St->Hp->Prop
 rt:VK
 bk:St->Hp->Prop:=λ_ _=>False
 ct:St->Hp->Prop:=λ_ _=>False
abbrev TS:=Ends->St->Hp->Prop
def EP X (pins:List (NQ × Obj)) (σ :St) (Q:VK) (u:NJ) (s':NO):= ∃ v H',Inv X pins σ H' s'/\RelV v u/\Q v H'
def TP X (pins:List (NQ × Obj)) (σ :St) (Q:Bool->Hp->Prop) b (s':NO):= ∃ H',Inv X pins σ H' s'/\Q b H'
def AP X (pins:List (NQ × Obj)) (σ :St) (Q:List V->Hp->Prop) (us:List NJ) (s':NO):= ∃ vs H',Inv X pins σ H' s'/\Vals vs us/\Q vs H'
def SP X (pins:List (NQ × Obj)) (D:Ends) (f:Flow) (s':NO) :=
 match f with
 | .next=> ∃ σ' H',Inv X pins σ' H' s'/\D.nx σ' H'
 | .brk=> ∃ σ' H',Inv X pins σ' H' s'/\D.bk σ' H'
 | .cont=> ∃ σ' H',Inv X pins σ' H' s'/\D.ct σ' H'
 | .ret u=> ∃ v σ' H',Inv X pins σ' H' s'/\RelV v u/\D.rt v H'
def PE X e (t:TE) :=
 ∀ pins s(σ :St) H Q,Inv X pins σ H s->t σ H Q->Ob (Of X.prog X.w) X.A (Py e X.env) (EP X pins σ Q) X.xe s
def PT X e (t:TT) :=
 ∀ pins s(σ :St) H Q,Inv X pins σ H s->t σ H Q->Ob (Of X.prog X.w) X.A (UG e X.env (Py e X.env)) (TP X pins σ Q) X.xe s
def PW X e (t:TT) :=
 ∀ whole pins s(σ :St) H Q,Inv X pins σ H s->t σ H Q->Ob (Of X.prog X.w) X.A (UG e X.env whole) (TP X pins σ Q) X.xe s
theorem PW.pt(h:PW X e t):PT X e t:=h _
def PA X (es:List Ou) (t:TA) :=
 ∀ pos pins s(σ :St) H Q,Inv X pins σ H s->t σ H Q->Ob (Of X.prog X.w) X.A (spliced (Ro pos (Oy es X.env))) (AP X pins σ Q) X.xe s
def PS X st (t:TS) :=
 ∀ pins s(σ :St) H D,Inv X pins σ H s->t D σ H->Ob (Of X.prog X.w) X.A (exec st X.env) (SP X pins D) X.xe s
def kO X (st:List Pn) (t:TS) :=
 ∀ pins s(σ :St) H D,Inv X pins σ H s->t D σ H->Ob (Of X.prog X.w) X.A (execs st X.env) (SP X pins D) X.xe s
theorem fB(h:Ob M A t Q E s)(hQ: ∀ a s,Q a s->Q' a s):Ob M A t Q' E s:=Oj h hQ λ_ _ x=>x
theorem jm(h:Ob M A t (EP X pins σ Q) E s)(k: ∀ u s v H,Inv X pins σ H s->RelV v u->Q v H->Q' u s):Ob M A t Q' E s:=fB h λu s z=>by obtain⟨v,H,a,b,c⟩:=z;exact k u s v H a b c
theorem BX(h:Ob M A t (AP X pins σ Q) E s)(k: ∀ u s v H,Inv X pins σ H s->Vals v u->Q v H->Q' u s):Ob M A t Q' E s:=fB h λu s z=>by obtain⟨v,H,a,b,c⟩:=z;exact k u s v H a b c
theorem Kr(h:Ob M A t (TP X pins σ Q) E s)(k: ∀ u s H,Inv X pins σ H s->Q u H->Q' u s):Ob M A t Q' E s:=fB h λu s z=>by obtain⟨H,a,c⟩:=z;exact k u s H a c
section
variable {X:Cx}
noncomputable def wU(i:Nat):TE:=fun σ H Q=> ∃ v, σ[i]?=NG (NG v)∧Q v H
noncomputable def tC(v:V):TE:=λ_ H Q=>Q v H
theorem nr{pos}(hN:X.N[i]?=NG x)(hv:FK X.env.scope x)(hd:(x == ("__debug__"))=false:=by decide)(hcd:(x == ("__classdict__"))=false:=by decide):PE X (.Name x pos) (wU i):=by
 intro pins s σ H Q I h;obtain⟨v,e,h⟩:=h;obtain⟨m,hn,hl⟩:=I.loc;obtain⟨u,r,l⟩:=hl i x v hN e hv;have fin:EP X pins σ Q u s:=⟨v,H,I,r,h⟩
 rcases l with⟨hk,hm⟩ | ⟨hk,c,hc,hcell⟩
 . exact VS (wpAny_loadName_local I.ok.kind hk hn hm fin) hd
 . rcases hk with hk | hk
   . exact VS (wpAny_loadName_cell I.ok.kind hk hc hcell fin) hd
   . exact VS (wpAny_loadName_free I.ok.kind hk hc hcell fin hcd) hd
theorem FE:PE X (.Constant (.int i) j pos) (tC (.int i)):=λ_ _ _ H _ I h=>wpAny_Constant_int ⟨.int i,H,I.tok _,⟨_,rfl⟩,h⟩
theorem JC:PE X (.Constant (.bool b) j pos) (tC (.bl b)):=λ_ _ _ H _ I h=>Constant_bool ⟨.bl b,H,I,rfl,h⟩
theorem E5:PE X (.Constant .none j pos) (tC .non):=λ_ _ _ H _ I h=>Constant_none ⟨.non,H,I,rfl,h⟩
theorem ER:PE X (.Constant (.str x) j pos) (tC (.str x)):=λ_ _ _ H _ I h=>Calls.Constant_str ⟨.str x,H,I.tok _,⟨_,rfl⟩,h⟩
def Gl(X:Cx) x:=X.env.kindOf x=NG .globalImplicit
theorem jy{E:NJ->NO->Prop}{pins:List (NQ × Obj)}{s:NO}{σ :St}{H:Hp}{x:Str}{u:NJ}{pos:Pos}{Q:NJ->NO->Prop}(I:Inv X pins σ H s)(hg:Gl X x)(hm:X.mg x=NG u)(h:Q u s)
  (hd:(x == ("__debug__" :Str))=false:=by decide):Ob (Of X.prog X.w) X.A (Py (.Name x pos) X.env) Q E s :=
 Sr I.ok.kind hg (Calls.loadGlobal_global (by rw[I.ok.glob];exact I.mod.glob.keeps I.bk) hm h) hd
theorem kb{E:NJ->NO->Prop}{pins:List (NQ × Obj)}{s:NO}{σ :St}{H:Hp}{x:Str}{u:NJ}{pos:Pos}{Q:NJ->NO->Prop}(I:Inv X pins σ H s)(hg:Gl X x)(hm:X.mg x=NI)(hv:OX x=NG u)(h:Q u s)
  (hn:x≠ "__name__" :=by decide) (hd:(x == ("__debug__" :Str))=false:=by decide):Ob (Of X.prog X.w) X.A (Py (.Name x pos) X.env) Q E s:=by
 obtain⟨mb,h1,h2⟩:=I.mod.blt;exact Sr I.ok.kind hg (Calls.loadGlobal_builtin (by rw[I.ok.glob];exact I.mod.glob.keeps I.bk) hm (by rw[I.ok.blt];exact h1.keeps I.bk) ((h2 x hn).trans hv) h) hd
theorem mC(hg:Gl X x)(hm:X.mg x=NG u)(r:RelV v u)(hd:(x == ("__debug__"))=false:=by decide):PE X (.Name x pos) (tC v) :=
 λ_ _ _ H _ I h=>jy I hg hm ⟨v,H,I,r,h⟩ hd
theorem q8{pos}(hg:Gl X x)(hm:X.mg x=NI)(hv:OX x=NG u)(r:RelV v u)(hn:x≠ "__name__" :=by decide)(hd:(x == ("__debug__"))=false:=by decide):PE X (.Name x pos) (tC v) :=
 λ_ _ _ H _ I h=>kb I hg hm hv ⟨v,H,I,r,h⟩ hn hd
variable{a b:Ou}{ta tb:TE}{pos:Pos}
def PC X (op:CmpOp) a b (t:TE) :=
 ∀ pins s(σ :St) H Q,Inv X pins σ H s->t σ H Q ->
  Ob (Of X.prog X.w) X.A (Py a X.env) (λv s₁ =>Ob (Of X.prog X.w) X.A (Py b X.env) (λu s₂ =>Ob (Of X.prog X.w) X.A (Ol op v u) (EP X pins σ Q) X.xe s₂) X.xe s₁) X.xe s
theorem vY b (h:op≠ .In) (h2:op≠ .NotIn):Pl op b=false:=by
 have e1:(op == CmpOp.In)=false:=by simp_all
 have e2:(op == WS)=false:=by simp_all
 cases b<;>simp[Pl,e1,e2]
noncomputable def Io(ta:TE):TE:=fun σ H Q=>ta σ H λx H1=>Q (.bl (decide (x= .non))) H1
theorem RelV.vW(r:RelV x v):(v == OW)=decide (x= .non):=by
 cases x with
 | non=>cases r;rfl
 | bl _=>cases r;rfl
 | int _=>obtain⟨t,rfl⟩:=r;rfl
 | str _=>obtain⟨t,rfl⟩:=r;rfl
 | byt _=>obtain⟨t,rfl⟩:=r;rfl
 | flt _=>obtain⟨t,rfl⟩:=r;rfl
 | ref _=>cases r;rfl
 | ty _=>cases r;rfl
theorem EC(ha:PE X a ta):PC X .Is a (.Constant .none j pos') (Io ta):=by
 intro pins s σ H Q I h;refine jm (ha pins s σ H _ I h) λv s1 x H1 I1 r1 q1=>?_;exact Constant_none (is_none_gen ⟨.bl _,H1,I1,by rw[r1.vW];rfl,q1⟩)
noncomputable def tB(t:TE):TT:=fun σ H Q=>t σ H λx H1=> ∃ c,x= .bl c/\Q c H1
theorem C6(h:PC X op a b t)(h1:Pl op b=false:=by first | exact vY _ (by decide) (by decide) | rfl):PT X (.Compare a [op] [b] pos) (tB t):=by
 intro pins s σ H Q I hw;refine TL (fB (h pins s σ H _ I hw) λv s1 h1=>fB h1 λu s2 h2=>jm h2 λc s3 x H1 I1 r1 q1=>?_) h1;obtain⟨d,rfl,q⟩:=q1;cases r1;exact O2 ⟨H1,I1,q⟩
theorem DT(h:PE X e t)(he: ∀ whole,UG e X.env whole=(do let v <- whole;UW e.pos;RZ [v] (truthy v)):=by intro _;rfl):PT X e (tB t):=by
 intro pins s σ H Q I hw;refine isTrue_plain (jm (h pins s σ H _ I hw) λv s1 x H1 I1 r1 q1=>?_) (he _);obtain⟨d,rfl,q⟩:=q1;cases r1;exact O2 ⟨H1,I1,q⟩
variable{tA tB':TT}{rest:List Ou}
noncomputable def JX(t u:TT):TT:=fun σ H Q=>t σ H λc H1=>if c=true then u σ H1 Q else Q false H1
noncomputable def ML(t u:TT):TT:=fun σ H Q=>t σ H λc H1=>if c=true then Q true H1 else u σ H1 Q
noncomputable def IQ(t:TT):TT:=fun σ H Q=>t σ H λc H1=>Q (!c) H1
theorem pw_and1(ha:PT X a tA):PW X (.BoolOp .And [a] pos) tA:=by
 intro wh pins s σ H Q I h;refine isTrue_and (fB (ha pins s σ H Q I h) λc s1 e=>?_);cases c with
 | true=>exact isTrue_and_nil e
 | false=>exact e
theorem pw_or1(ha:PT X a tA):PW X (.BoolOp .Or [a] pos) tA:=by
 intro wh pins s σ H Q I h;refine isTrue_or (fB (ha pins s σ H Q I h) λc s1 e=>?_);cases c with
 | false=>exact isTrue_or_nil e
 | true=>exact e
theorem pw_and(ha:PT X a tA)(hb:PW X (.BoolOp .And (b::rest) pos) tB'):PW X (.BoolOp .And (a::b::rest) pos) (JX tA tB'):=by
 intro wh pins s σ H Q I h;refine isTrue_and (Kr (ha pins s σ H _ I h) λc s1 H1 I1 q1=>?_);cases c with
 | true=>exact hb wh pins s1 σ H1 Q I1 q1
 | false=>exact⟨H1,I1,q1⟩
theorem pw_or(ha:PT X a tA)(hb:PW X (.BoolOp .Or (b::rest) pos) tB'):PW X (.BoolOp .Or (a::b::rest) pos) (ML tA tB'):=by
 intro wh pins s σ H Q I h;refine isTrue_or (Kr (ha pins s σ H _ I h) λc s1 H1 I1 q1=>?_);cases c with
 | true=>exact⟨H1,I1,q1⟩
 | false=>exact hb wh pins s1 σ H1 Q I1 q1
theorem E1(ha:PT X a tA):PT X (.UnaryOp .Not a pos) (IQ tA):=by
 intro pins s σ H Q I h;exact isTrue_not (ha pins s σ H (λc H1=>Q (!c) H1) I h)
noncomputable def B0(ta tb:TE):TE:=fun σ H Q=>ta σ H λx H1=> ∃ c,x= .bl c/\if c=true then tb σ H1 Q else Q (.bl false) H1
noncomputable def IW(ta tb:TE):TE:=fun σ H Q=>ta σ H λx H1=> ∃ c,x= .bl c/\if c=true then Q (.bl true) H1 else tb σ H1 Q
theorem CN(h:PE X a t):PE X (.BoolOp op [a] pos) t:=λpins s σ H Q I hw=>BoolOp_one (h pins s σ H Q I hw)
theorem GX(ha:PE X a ta)(hb:PE X (.BoolOp .And (b::rest) pos) tb):PE X (.BoolOp .And (a::b::rest) pos) (B0 ta tb):=by
 intro pins s σ H Q I h;refine BoolOp_and (jm (ha pins s σ H _ I h) λv s1 x H1 I1 r1 q1=>?_);obtain⟨c,rfl,q1⟩:=q1;cases r1;refine O2 ?_;cases c with
 | true=>exact hb pins s1 σ H1 Q I1 q1
 | false=>exact⟨.bl false,H1,I1,rfl,q1⟩
theorem Jh(ha:PE X a ta)(hb:PE X (.BoolOp .Or (b::rest) pos) tb):PE X (.BoolOp .Or (a::b::rest) pos) (IW ta tb):=by
 intro pins s σ H Q I h;refine BoolOp_or (jm (ha pins s σ H _ I h) λv s1 x H1 I1 r1 q1=>?_);obtain⟨c,rfl,q1⟩:=q1;cases r1;refine O2 ?_;cases c with
 | false=>exact hb pins s1 σ H1 Q I1 q1
 | true=>exact⟨.bl true,H1,I1,rfl,q1⟩
noncomputable def MY(t:TT)(ta tb:TE):TE:=fun σ H Q=>t σ H λc H1=>if c=true then ta σ H1 Q else tb σ H1 Q
theorem uZ(hc:PT X c tA)(ha:PE X a ta)(hb:PE X b tb):PE X (.IfExp c a b pos) (MY tA ta tb):=by
 intro pins s σ H Q I h;refine wpAny_IfExp (Kr (hc pins s σ H _ I h) λd s1 H1 I1 q1=>?_);cases d with
 | true=>exact ha pins s1 σ H1 Q I1 q1
 | false=>exact hb pins s1 σ H1 Q I1 q1
end
def d9(K:NH) H a (xs:List V) :=
 Rd H a (.lst xs) \/
  ∃(o:Obj)(ak:Array NJ)(n:Nat),K.lookup a=NG o/\o.cls= .type "list" /\o.dict=NI/\o.data= .seq ak n/\ak.size<=NZ/\Vals xs ak.toList
def fk(K:NH) H a (xs:List V) :=
 Rd H a (.tup xs) \/
  ∃(o:Obj)(ak:Array NJ)(n:Nat),K.lookup a=NG o/\o.cls= .type "tuple" /\o.data= .seq ak n/\ak.size<=NZ/\Vals xs ak.toList
noncomputable def LR:NJ->Option V
 | .none=>NG .non
 | .bool b=>NG (.bl b)
 | .int i _=>NG (.int i)
 | .str x _=>NG (.str x)
 | .bytes b _=>NG (.byt b)
 | .float b _=>NG (.flt b)
 | .ref a=>NG (.ref a)
 | .type n=>NG (.ty n)
 | _=>NI
theorem RelV.abs(r:RelV x u):LR u=NG x:=by
 cases x with
 | non=>cases r;rfl
 | bl _=>cases r;rfl
 | int _=>obtain⟨t,rfl⟩:=r;rfl
 | str _=>obtain⟨t,rfl⟩:=r;rfl
 | byt _=>obtain⟨t,rfl⟩:=r;rfl
 | flt _=>obtain⟨t,rfl⟩:=r;rfl
 | ref _=>cases r;rfl
 | ty _=>cases r;rfl
theorem RelV.inj(r:RelV x u)(q:RelV y u):x=y:=OF (r.abs.symm.trans q.abs)
theorem Vals.inj: ∀{xs ys us},Vals xs us->Vals ys us->xs=ys
 | _,_,_,.nil,.nil=>rfl
 | _,_,_,.cons r t,.cons r' t'=>by rw[r.inj r',Vals.inj t t']
section
variable{X:Cx}{pins:List (NQ × Obj)}{σ :St}{H:Hp}{s:NO}{a:NQ}{xs ys:List V}
theorem d9.of{K:NH}(h:H a=NG (.lst xs)):d9 K H a xs:= .inl (.inl h)
theorem fk.of{K:NH}(h:H a=NG (.tup xs)):fk K H a xs:= .inl (.inl h)
theorem Inv.list(I:Inv X pins σ H s)(h:d9 X.K H a xs): ∃ ak ,Vals xs ak/\PlainL s.heap a ak.toArray/\xs.length<=NZ:=by
 rcases h with h | ⟨o,ak,n,hk,hc,hd,hs,hz,r⟩
 . obtain⟨z,ak,n,r,e⟩:=h.ok I.aW;exact⟨ak,r,⟨_,n,e,rfl,rfl,rfl⟩,z⟩
 . refine⟨ak.toList,r,⟨o,n,I.qA a o hk,hc,hd,by omega⟩,?_⟩;have e:=r.length;simp only[Se] at e;omega
theorem Inv.tuple(I:Inv X pins σ H s)(h:fk X.K H a xs): ∃ ak ,Vals xs ak/\WR s.heap a ak.toArray/\xs.length<=NZ:=by
 rcases h with h | ⟨o,ak,n,hk,hc,hs,hz,r⟩
 . obtain⟨z,ak,r,p⟩:=h.ok I.aW;exact⟨ak,r,p.tup,z⟩
 . refine⟨ak.toList,r,⟨o,I.qA a o hk,hc,n,by omega⟩,?_⟩;have e:=r.length;simp only[Se] at e;omega
theorem Inv.vF(I:Inv X pins σ H s)(h:d9 X.K H a xs)(h':d9 X.K H a ys):xs=ys:=by
 obtain⟨ak,r,⟨o,n,e,_,_,d⟩,_⟩:=I.list h;obtain⟨its',r',⟨o',n',e',_,_,d'⟩,_⟩:=I.list h';rw[e] at e';cases e';rw[d] at d';injection d' with d1 _;have:ak=its':=by simpa using congrArg WC d1
 subst this;exact r.inj r'
theorem Inv.tR(I:Inv X pins σ H s)(h:fk X.K H a xs)(h':fk X.K H a ys):xs=ys:=by
 obtain⟨ak,r,⟨o,e,_,n,d⟩,_⟩:=I.tuple h;obtain⟨its',r',⟨o',e',_,n',d'⟩,_⟩:=I.tuple h';rw[e] at e';cases e';rw[d] at d';injection d' with d1 _;have:ak=its':=by simpa using congrArg WC d1
 subst this;exact r.inj r'
end
abbrev Cx.a0(X:Cx)(E:NJ->NO->Prop):Cx:={ X with xe:=E}
abbrev Cx.c8(X:Cx):Cx:=X.a0 λ_ _=>False
theorem Cx.Ok.a0{X:Cx}(ok:X.Ok) E:(X.a0 E).Ok :=
 ⟨ok.mod,ok.kind,ok.glob,ok.blt,ok.above,ok.inj,ok.has,ok.yk,ok.hd,ok.frames,ok.Cy,ok.E7,ok.bs,ok.rn,ok.pN,ok.p6,ok.eV,ok.uJ⟩
theorem Cx.Ok.bo{X:Cx}(ok:(X.a0 E).Ok):X.Ok :=
 ⟨ok.mod,ok.kind,ok.glob,ok.blt,ok.above,ok.inj,ok.has,ok.yk,ok.hd,ok.frames,ok.Cy,ok.E7,ok.bs,ok.rn,ok.pN,ok.p6,ok.eV,ok.uJ⟩
section
variable{X:Cx}{pins:List (NQ × Obj)}{σ :St}{H:Hp}{s:NO}{E:NJ->NO->Prop}
theorem Inv.a0(I:Inv X pins σ H s) E:Inv (X.a0 E) pins σ H s:=⟨I.ok.a0 E,I.os,I.bare,I.base,I.loc,I.cell,I.free,I.cW,I.pin,I.aW,I.len⟩
theorem Inv.bo(I:Inv (X.a0 E) pins σ H s):Inv X pins σ H s:=⟨I.ok.bo,I.os,I.bare,I.base,I.loc,I.cell,I.free,I.cW,I.pin,I.aW,I.len⟩
theorem SP.bo(h:SP (X.a0 E) pins D f s'):SP X pins D f s':=by
 cases f with
 | next=>obtain ⟨σ',H',I,q⟩:=h;exact ⟨σ',H',I.bo,q⟩
 | brk=>obtain ⟨σ',H',I,q⟩:=h;exact ⟨σ',H',I.bo,q⟩
 | cont=>obtain ⟨σ',H',I,q⟩:=h;exact ⟨σ',H',I.bo,q⟩
 | ret u=>obtain ⟨v, σ',H',I,r,q⟩:=h;exact ⟨v, σ',H',I.bo,r,q⟩
theorem PE.c8{e:Ou}{t:TE}(h:PE X.c8 e t):PE X e t:=λpins s σ H Q I hw =>
 Oj (h pins s σ H Q (I.a0 _) hw) (λ_ _ ⟨v,H',I',r,q⟩=>⟨v,H',I'.bo,r,q⟩) λ_ _ z=>Pz z
theorem PT.c8{e:Ou}{t:TT}(h:PT X.c8 e t):PT X e t:=λpins s σ H Q I hw =>
 Oj (h pins s σ H Q (I.a0 _) hw) (λ_ _ ⟨H',I',q⟩=>⟨H',I'.bo,q⟩) λ_ _ z=>Pz z
theorem kO.c8{st}(h:kO X.c8 st t):kO X st t:=λpins s σ H D I hw =>
 Oj (h pins s σ H D (I.a0 _) hw) (λ_ _ q=>q.bo) λ_ _ z=>Pz z
end
section
variable{X:Cx}{st:Pn}{rest:List Pn}{t u:TS}{e:Ou}{te:TE}{pos:Pos}
noncomputable def vA:TS:=λD σ H=>D.nx σ H
noncomputable def Ft(t u:TS):TS:=λD σ H=>t { D with nx:=u D} σ H
theorem BN:kO X [] vA:=λ_ _ σ H _ I h=>Rj ⟨σ,H,I,h⟩
theorem vw(h1:PS X st t)(h2:kO X rest u):kO X (st::rest) (Ft t u):=by
 intro pins s σ H D I h;refine S1 (fB (h1 pins s σ H { D with nx:=u D} I h) λf s1 q=>?_);cases f with
 | next =>
  obtain⟨σ',H',I',q⟩:=q
  exact h2 pins s1 σ' H' D I' q
 | ret v=>exact q
 | brk=>exact q
 | cont=>exact q
theorem zu(h1:PS X st t):kO X [st] t:=by
 intro pins s σ H D I h;refine S1 (fB (h1 pins s σ H D I h) λf s1 q=>?_);cases f with
 | next=>exact Rj q
 | ret v=>exact q
 | brk=>exact q
 | cont=>exact q
theorem Inv.quiet{σ :St}(I:Inv X pins σ H s):interactive X.env=false:=by simp[interactive,I.ok.kind]
noncomputable def CA(te:TE):TS:=λD σ H=>te σ H λ_ H1=>D.nx σ H1
theorem y9(he:PE X e te)(hs:Pt e NI pos.line X.env=pure false:=by rfl):PS X (.Expr e pos) (CA te):=by
 intro pins s σ H D I h;exact wpAny_Expr_any (jm (he pins s σ H _ I h) λv s1 x H1 I1 r1 q1=>⟨σ,H1,I1,q1⟩) I.quiet hs
noncomputable def IC(te:TE):TS:=λD σ H=>te σ H D.rt
theorem Fg(he:PE X e te):PS X (.Return (NG e) pos) (IC te):=by
 intro pins s σ H D I h;exact wpAny_Return_some (jm (he pins s σ H _ I h) λv s1 x H1 I1 r1 q1=>⟨x, σ,H1,I1,r1,q1⟩)
noncomputable def IL(c:TT)(t u:TS):TS:=λD σ H=>c σ H λb H1=>if b=true then t D σ H1 else u D σ H1
theorem Hu(hc:PT X c tc)(ha:kO X a t)(hb:kO X b u):PS X (.If c a b pos) (IL tc t u):=by
 intro pins s σ H D I h;refine wpAny_If (Kr (hc pins s σ H _ I h) λd s1 H1 I1 q1=>?_);cases d with
 | true=>exact ha pins s1 σ H1 D I1 q1
 | false=>exact hb pins s1 σ H1 D I1 q1
end
abbrev TG:=V->St->Hp->(St->Hp->Prop)->Prop
abbrev yn:=List V->St->Hp->(St->Hp->Prop)->Prop
def PG X target (t:TG) :=
 ∀ pins s(σ :St) H v u Q,Inv X pins σ H s->RelV v u->t v σ H Q ->
  Ob (Of X.prog X.w) X.A (RT target X.env u) (λ_ s'=> ∃ σ' H',Inv X pins σ' H' s'/\Q σ' H') X.xe s
def Iz X (ts:List Ou) (t:yn) :=
 ∀ pins s(σ :St) H vs us Q,Inv X pins σ H s->Vals vs us->t vs σ H Q ->
  Ob (Of X.prog X.w) X.A (assignInOrder ((O5 ts X.env).map (·.2)) us) (λ_ s'=> ∃ σ' H',Inv X pins σ' H' s'/\Q σ' H') X.xe s
abbrev C3:=V->V->V->Hp->(Hp->Prop)->Prop
def ku X (t:C3) :=
 ∀ pins s(σ :St) H o i v ov iv u Q,Inv X pins σ H s->RelV o ov->RelV i iv->RelV v u->t o i v H Q ->
  Ob (Of X.prog X.w) X.A (WE ov iv u) (λ_ s'=> ∃ H',Inv X pins σ H' s'/\Q H') X.xe s
section
variable{X:Cx}{pos:Pos}
noncomputable def cL(i:Nat):TG:=λv σ H Q=>Q (σ.set i (NG v)) H
theorem y3(hN:X.N.Nodup)(hi:X.N[i]?=NG x)(hx:Loc X.env.scope x)(hf:X.fn x=true\/X.env.scope.names.lookup x=NG .local:=by first | exact .inl rfl | exact .inr rfl | assumption):PG X (.Name x pos) (cL i):=by
 intro pins s σ H v u Q I r h;exact UX (jG I hN hi hx r (λs' I'=>⟨_,H,I',h⟩) hf)
noncomputable def uy:yn:=λvs σ H Q=>vs=[]/\Q σ H
noncomputable def jc(t:TG)(u:yn):yn:=λvs σ H Q=> ∃ v r,vs=v::r/\t v σ H fun σ' H'=>u r σ' H' Q
theorem BP:Iz X [] uy:=by
 intro pins s σ H vs us Q I r h;obtain⟨e,h⟩:=h;subst e;exact assignInOrder_nil ⟨σ,H,I,h⟩
theorem xN(h1:PG X e t)(h2:Iz X es u)
  (hs:(O5 (e::es) X.env).map (·.2)=RT e X.env::(O5 es X.env).map (·.2):=by rfl):Iz X (e::es) (jc t u):=by
 intro pins s σ H vs us Q I r h;obtain⟨v,vr,e1,h⟩:=h;subst e1;cases r with
 | cons r rr =>
  rw[hs]
  refine assignInOrder_cons (fB (h1 pins s σ H _ _ _ I r h) λ_ s1 z9=>?_);obtain⟨σ1,H1,I1,q1⟩:=z9
  exact h2 pins s1 σ1 H1 _ _ Q I1 rr q1
noncomputable def pY(K:NH)(n:Nat)(t:yn):TG:=λv σ H Q=> ∃ a xs,v= .ref a/\fk K H a xs/\xs.length=n/\t xs σ H Q
theorem Dw{k}(hc:X.calm=true)(h:Iz X es t)
  (hn:(O5 es X.env).length=n:=by rfl) (hst:(O5 es X.env).findIdx? (·.1)=NI:=by rfl):PG X (.Tuple es k pos) (pY X.K n t):=by
 intro pins s σ H v u Q I r hw;obtain⟨a,xs,e1,hq,hl,hw⟩:=hw;subst e1;cases r;obtain⟨ak,rv,ht,hz⟩:=I.tuple hq;refine assign_Tuple_tuple (I.ok.hd hc) ht (by simp[hn,<- hl,rv.length]) hst λh' hx=>?_;have I1:=I.kept (t':=s.toks) λb o e=>hx b o (Og (NY e)) e;exact h pins _ σ H xs _ Q I1 (by omega) hw
noncomputable def LQ(to ti:TE)(t:C3):TG:=λv σ H Q=>to σ H λo H1=>ti σ H1 λi H2=>t o i v H2 λH3=>Q σ H3
theorem Di(ho:PE X o to)(hi:PE X i ti)(hs:ku X t)
  (ha: ∀ v,RT (.Subscript o i pos) X.env v=(do
   let ov <- RZ [v] (Py o X.env)
   let iv <- RZ [v,ov] (Py i X.env)
   UW pos
   RZ [v,ov,iv] (WE ov iv v)
   release [v,ov,iv] []):=by intro _;rfl):PG X (.Subscript o i pos) (LQ to ti t):=by
 intro pins s σ H v u Q I r h;rw[ha];refine NL (Pm (jm (ho pins s σ H _ I h) λov s1 x H1 I1 r1 q1=>?_));refine NL (Pm (jm (hi pins s1 σ H1 _ I1 q1) λiv s2 y H2 I2 r2 q2=>?_));refine NL (R0 (NL (Pm (fB (hs pins s2 σ H2 x y v ov iv u _ I2 r1 r2 r q2) λ_ s3 z9=>?_))));obtain⟨H3,I3,q3⟩:=z9;exact wpAny_release ⟨σ,H3,I3,q3⟩
noncomputable def vH(te:TE)(g:TG):TS:=λD σ H=>te σ H λx H1=>g x σ H1 D.nx
theorem Gx(he:PE X e te)(hg:PG X tg g)(hs:Ux [tg] e pos.line X.env=pure false:=by rfl)(hw:Uy [tg] e X.env=pure NI:=by rfl)
  (h1:(O5 [tg] X.env).map (·.2)=[RT tg X.env]:=by rfl):PS X (.Assign [tg] e pos) (vH te g):=by
 intro pins s σ H D I h;refine wpAny_Assign_stores (jm (he pins s σ H _ I h) λv s1 x H1 I1 r1 q1=>?_) hs hw;rw[h1];exact fB (hg pins s1 σ H1 x v _ I1 r1 q1) λ_ s2 q=>q
theorem Fi(hN:X.N.Nodup)(hi:X.N[i]?=NG x)(hx:Loc X.env.scope x)(he:PE X e te)(hs:Pt e (NG (.Name x pos')) pos.line X.env=pure false:=by rfl)(hf:X.fn x=true\/X.env.scope.names.lookup x=NG .local:=by first | exact .inl rfl | exact .inr rfl | assumption) :
  PS X (.Assign [.Name x pos'] e pos) (vH te (cL i)):=by
 intro pins s σ H D I h;refine wpAny_Assign_Name (jm (he pins s σ H _ I h) λv s1 y H1 I1 r1 q1=>?_) hs;exact jG I1 hN hi hx r1 (λs2 I2=>⟨_,H1,I2,q1⟩) hf
end
structure It where
 go:Nat->Hp->Prop
 B3:Nat->Hp->V->Hp->Prop
 stop:Nat->Hp->Prop
def jN(X:Cx)(pins:List (NQ × Obj))(H:Hp) b :=
 H b=NI/\b≠X.env.locals/\b ∉ X.fs/\(b∈X.ex\/X.s₀.heap.objs.size<=b)/\(∀ x c,X.env.cells.lookup x=NG c->c≠b)/\ ∀ p∈X.pn++pins,p.1≠b
theorem Inv.JD{X:Cx}{pins:List (NQ × Obj)}{σ :St}{H H':Hp}{s:NO}{b:NQ}(I:Inv X pins σ H s)(hb:s.heap.objs.size<=b)(hn:H' b=NI):jN X pins H' b:=by
 refine⟨hn,Q2 (NV I.lt hb),I.Ar hb,.inr (N5 I.sz hb),λx c e z=>?_,λp hp z=>?_⟩
 . obtain⟨v,q⟩:=I.cell x c e;exact absurd (NV q.lt (by simp_all)) (OT _)
 . exact absurd (NV (NY (I.pin p hp).1) (by simp_all)) (OT _)
structure Turn(P:Om)(w:OC)(K:NH)(tg:Ou)(J:It)(fp:List NQ)(it:NQ)(tn:Nat->OQ->Prop):Prop where
 mem:it∈fp
 obj: ∀ i h,tn i h-> ∀ b∈fp,∃ o,h.get? b=NG o/\ ∀ v,o.data≠ .cell v
 keep: ∀ i h h',tn i h->(∀ b∈fp,∀ o,h.get? b=NG o->h'.get? b=NG o)->tn i h'
 item: ∀(X:Cx),X.prog=P->X.w=w->X.K=K->X.calm=true-> ∀(i:Nat)(pins:List (NQ × Obj))(s:NO)(σ :St)(H:Hp)(E:NJ->NO->Prop),Inv X pins σ H s->(∀ b∈fp,jN X pins H b)->tn i s.heap->J.go i H ->
  Ob (Of P w) X.A (pyNext (.ref it)) (λr s1=> ∃ u,r=NG u /\
   Ob (Of P w) X.A (Tw tg (.ref it) u) (λ_ s2=> ∃ x H',Inv X pins σ H' s2/\RelV x u/\J.B3 i H x H'/\tn (i+1) s2.heap/\ ∀ b∈fp,H' b=NI) E s1) E s
 done: ∀(X:Cx),X.prog=P->X.w=w->X.K=K->X.calm=true-> ∀(i:Nat)(pins:List (NQ × Obj))(s:NO)(σ :St)(H:Hp)(E:NJ->NO->Prop),Inv X pins σ H s->(∀ b∈fp,jN X pins H b)->tn i s.heap->J.stop i H ->
  Ob (Of P w) X.A (pyNext (.ref it)) (λr s1=>r=NI/\Inv X pins σ H s1) E s
 self: ∀(A:OI)(i:Nat)(s:NO)(Q:NJ->NO->Prop)(E:NJ->NO->Prop),tn i s.heap->Q (.ref it) s->Ob (Of P w) A (Vd (.ref it)) Q E s
abbrev TI:=St->Hp->(It->Hp->Prop)->Prop
def Hn X (pins:List (NQ × Obj)) (σ :St) tg (R:It->Hp->Prop) (itv:NJ) (s2:NO) :=
 ∃(it:NQ)(fp:List NQ)(tn:Nat->OQ->Prop)(J:It)(H':Hp),itv= .ref it/\Inv X pins σ H' s2/\Turn X.prog X.w X.K tg J fp it tn/\tn 0 s2.heap/\(∀ b∈fp,jN X pins H' b)/\R J H'
def PI X tg iter (wi:TI) :=
 ∀ pins s(σ :St) H R,Inv X pins σ H s->wi σ H R ->
  Ob (Of X.prog X.w) X.A (Py iter X.env) (λv s1=>Ob (Of X.prog X.w) X.A (Vd v) (Hn X pins σ tg R) X.xe s1) X.xe s
theorem sL{M : VR}{A : OI}{E : NJ -> NO -> Prop}{s : NO}{tg : Ou}{it : NQ}{u : NJ}{o : Obj}{n : String}{vs : Array NJ}{Q : Unit -> NO -> Prop}(ho : s.heap.get? it = NG o)(hc : o.cls = .type n)(hd : o.data = .fields vs)
    (hn : ["enumerate", "zip", "dict_itemiterator", "dict_reverseitemiterator", "odict_iterator", "itertools.zip_longest", "itertools.pairwise"].contains n = false) (hQ : Q () s) : Ob M A (Tw tg (.ref it) u) Q E s := by
  cases tg <;> first
    | exact N2 hQ
    | (cases u <;> first
        | exact N2 hQ
        | (refine NL (Rp ho ?_)
           rw [hc, hd]
           show Ob M A (if (["enumerate", "zip", "dict_itemiterator", "dict_reverseitemiterator", "odict_iterator", "itertools.zip_longest", "itertools.pairwise"].contains n && vs[0]? == NG (Ve _)) = true then _ else _) Q E s
           rw [if_neg (by intro h; rw [hn] at h; cases h)]
           exact N2 hQ))
noncomputable def L5(K:NH)(a:NQ):It :=
 ⟨λi H=> ∃ xs x,d9 K H a xs/\xs[i]?=NG x,λi H x H'=>H'=H/\ ∀ xs,d9 K H a xs->xs[i]?=NG x,λi H=> ∃ xs,d9 K H a xs/\xs.length<=i⟩
noncomputable def Kx(K:NH)(a:NQ):It :=
 ⟨λi H=> ∃ xs x,fk K H a xs/\xs[i]?=NG x,λi H x H'=>H'=H/\ ∀ xs,fk K H a xs->xs[i]?=NG x,λi H=> ∃ xs,fk K H a xs/\xs.length<=i⟩
noncomputable def uK(lo:Int)(n:Nat):It:=⟨λi _=>i < n,λi H x H'=>H'=H/\x= .int (lo+i),λi _=>n<=i⟩
theorem uw{K} a it:Turn P w K tg (L5 K a) [it] it (λi h=>h.IsListIter it a i) where
 mem:=by simp
 obj:=λi h st b hb=>by
  have e:b=it:=by simpa using hb
  subst e;obtain⟨o,e,c,d⟩:=st;exact⟨o,e,λv z=>by simp_all⟩
 keep:=λi h h' st k=>st.at λo e=>k it (by simp) o e
 item:=by
  intro X hP hw hK hc i pins s σ H E I hf st hg;subst hP hw hK;obtain⟨xs,x,hq,hx⟩:=hg;obtain⟨ak,rv,p,hz⟩:=I.list hq;obtain⟨u,hu,ru⟩:=rv.get hx;obtain⟨f0,f1,f2,f3,f4,f5⟩:=hf it (by simp);refine wpAny_pyNext_list_item st p.isList (x:=u) (by simpa using hu) λh' st' sb=>?_;have I1:=I.turned (t':=s.toks) (λb o hb e=>(sb.2 b hb).trans e) f0 f1 f3 f4 f5;obtain⟨o,e,c,d⟩:=id st';exact⟨u,rfl,sL (s:={ s with heap:=h'}) e c d (by decide) ⟨x,H,I1,ru,⟨rfl,λys hy=>by rw[I.vF hy hq];exact hx⟩,st',λb hb=>(hf b hb).1⟩⟩
 done:=by
  intro X hP hw hK hc i pins s σ H E I hf st hg;subst hP hw hK;obtain⟨xs,hq,hx⟩:=hg;obtain⟨ak,rv,p,hz⟩:=I.list hq;obtain⟨f0,f1,f2,f3,f4,f5⟩:=hf it (by simp);have hl:=rv.length;exact wpAny_pyNext_list_end (I.ok.hd hc) st p.isList (by simp;omega) λh' eb=>⟨rfl,I.turned (t':=s.toks) (λb o hb e=>eb b o hb e) f0 f1 f3 f4 f5⟩
 self:=λ_ _ _ _ _ st h=>wpAny_pyIter_listiter st h
theorem p8{K} a it:Turn P w K tg (Kx K a) [it] it (λi h=>h.IsTupleIter it a i) where
 mem:=by simp
 obj:=λi h st b hb=>by
  have e:b=it:=by simpa using hb
  subst e;obtain⟨o,e,c,d⟩:=st;exact⟨o,e,λv z=>by simp_all⟩
 keep:=λi h h' st k=>st.at λo e=>k it (by simp) o e
 item:=by
  intro X hP hw hK hc i pins s σ H E I hf st hg;subst hP hw hK;obtain⟨xs,x,hq,hx⟩:=hg;obtain⟨ak,rv,p,hz⟩:=I.tuple hq;obtain⟨u,hu,ru⟩:=rv.get hx;obtain⟨f0,f1,f2,f3,f4,f5⟩:=hf it (by simp);refine wpAny_pyNext_tuple_item st (show s.heap.IsTuple a ak.toArray from p) (x:=u) (by simpa using hu) λh' st' sb=>?_;have I1:=I.turned (t':=s.toks) (λb o hb e=>(sb.2 b hb).trans e) f0 f1 f3 f4 f5;obtain⟨o,e,c,d⟩:=id st';exact⟨u,rfl,sL (s:={ s with heap:=h'}) e c d (by decide) ⟨x,H,I1,ru,⟨rfl,λys hy=>by rw[I.tR hy hq];exact hx⟩,st',λb hb=>(hf b hb).1⟩⟩
 done:=by
  intro X hP hw hK hc i pins s σ H E I hf st hg;subst hP hw hK;obtain⟨xs,hq,hx⟩:=hg;obtain⟨ak,rv,p,hz⟩:=I.tuple hq;obtain⟨f0,f1,f2,f3,f4,f5⟩:=hf it (by simp);have hl:=rv.length;exact wpAny_pyNext_tuple_end (I.ok.hd hc) st (show s.heap.IsTuple a ak.toArray from p) (by simp;omega) λh' eb=>⟨rfl,I.turned (t':=s.toks) (λb o hb e=>eb b o hb e) f0 f1 f3 f4 f5⟩
 self:=λ_ _ _ _ _ st h=>wpAny_pyIter_tupleiter st h
theorem qx{K} it lo n:Turn P w K tg (uK lo n) [it] it (λi h=>IsRangeIter h it (lo+(i)*1) ((n) - (i)) 1) where
 mem:=by simp
 obj:=λi h st b hb=>by
  simp_all
 keep:=λi h h' st k=>k it (by simp) _ st
 item:=by
  intro X hP hw hK hc i pins s σ H E I hf st hg;subst hP hw hK;obtain⟨f0,f1,f2,f3,f4,f5⟩:=hf it (by simp);have W:=Walks.range (prog:=X.prog) (w:=X.w) (I.ok.hd hc) it lo 1 n;refine W.item i s _ _ hg st λv h' tk hv st' kk=>?_;obtain⟨t,rfl⟩:=hv;have I1:Inv X pins σ H { s with heap:=h',toks:=tk}:=I.turned (λb o hb e=>kk b o (by simpa using hb) e) f0 f1 f3 f4 f5;refine⟨_,rfl,sL (s:={ s with heap:=h',toks:=tk}) (n:= "range_iterator") st' rfl rfl (by decide) ⟨.int (lo+i),H,I1,⟨t,?_⟩,⟨rfl,rfl⟩,st',λb hb=>(hf b hb).1⟩⟩;rw[Int.mul_one]
 done:=by
  intro X hP hw hK hc i pins s σ H E I hf st hg;obtain⟨f0,f1,f2,f3,f4,f5⟩:=hf it (by simp);exact wpAny_pyNext_range_end (I.ok.hd hc) st (by have:n<=i:=hg;omega) λh' eb=>⟨rfl,I.turned (t':=s.toks) (λb o hb e=>eb b o hb e) f0 f1 f3 f4 f5⟩
 self:=λ_ _ _ _ _ st h=>wpAny_pyIter_rangeiter st h
section
variable{X:Cx}{tg:Ou}
theorem pF{pins:List (NQ × Obj)}{σ :St}{H:Hp}{s:NO}{R:It->Hp->Prop}{E:NJ->NO->Prop}{lo hi:Int}{t u v:Tok}{tk:Nat}(I:Inv X pins σ H s)(h1: -(2 ^ 62)<=lo)(h2:lo < 2 ^ 62)(h3: -(2 ^ 62)<=hi)(h4:hi < 2 ^ 62)
  (q:R (uK lo (hi - lo).toNat) H):Ob (Of X.prog X.w) X.A (Vd (.ref s.heap.objs.size)) (Hn X pins σ tg R) E { s with heap:=s.heap.push { cls:= .type "range",data:= .fields #[.int lo t,.int hi u,.int 1 v]},toks:=tk}:=by
 refine wpAny_pyIter_range (IsRange.new ..) (small_one h1 h2 h3 h4) ?_;have I1:Inv X pins σ H { s with heap:=s.heap.push { cls:= .type "range",data:= .fields #[.int lo t,.int hi u,.int 1 v]},toks:=tk}:=I.kept λb o e=>NT _ e;refine⟨(s.heap.push { cls:= .type "range",data:= .fields #[.int lo t,.int hi u,.int 1 v]}).objs.size,[(s.heap.push { cls:= .type "range",data:= .fields #[.int lo t,.int hi u,.int 1 v]}).objs.size],_,_,H,rfl,
  I1.kept (t':=tk) λb o e=>NT _ e,qx _ lo (hi - lo).toNat,?_,λb hb=>?_,q⟩
 . have e1:lo+((0:Nat))*1=lo:=by simp
   have e2:(((hi - lo).toNat)) - ((0:Nat))=Wx lo hi 1:=by rw[rangeSize_one];split<;>omega
   rw[e1,e2];exact Oh _ rfl
 . have e:b=(s.heap.push { cls:= .type "range",data:= .fields #[.int lo t,.int hi u,.int 1 v]}).objs.size:=by simpa using hb
   subst e;exact I1.JD (NS _) (I1.aW.fresh (NS _))
def JU(ta:TA):TI:=fun σ H R=>ta σ H λvs H1=> ∃ j ,vs=[.int j]/\ -(2 ^ 62)<=j/\j < 2 ^ 62/\R (uK 0 j.toNat) H1
def HM(ta:TA):TI:=fun σ H R=>ta σ H λvs H1=> ∃ i j:Int,vs=[.int i,.int j]/\(-(2 ^ 62)<=i/\i < 2 ^ 62/\ -(2 ^ 62)<=j/\j < 2 ^ 62)/\R (uK i (j - i).toNat) H1
theorem tu(hg:Gl X "range")(hm:X.mg "range" =NI)(ha:PA X [a] ta)(hs:Oy [a] X.env=[(false,Py a X.env)]:=by rfl):PI X tg (.Call (.Name "range" p) [a] [] pos) (JU ta):=by
 intro pins s σ H R I h;refine Call_ (kb I hg hm boot_range (QL (BX (ha pos pins s σ H _ I h) λus s1 vs H1 I1 r1 q1=>?_) hs rfl));obtain⟨j,e,q1,q2,q⟩:=q1;subst e;cases r1 with
 | cons r rr =>
  cases rr
  obtain⟨t,rfl⟩:=r
  exact call_range_1 (pF I1 (by omega) (by omega) q1 q2 (by simpa using q))
theorem sZ{a b:Ou}{ta:TA}{p pos:Pos}(hg:Gl X "range")(hm:X.mg "range" =NI)(ha:PA X [a,b] ta)(hs:Oy [a,b] X.env=[(false,Py a X.env),(false,Py b X.env)]:=by rfl)(hs2:Oy [b] X.env=[(false,Py b X.env)]:=by rfl) :
  PI X tg (.Call (.Name "range" p) [a,b] [] pos) (HM ta):=by
 intro pins s σ H R I h;refine Call_ (kb I hg hm boot_range (QL (fB (ha pos pins s σ H _ I h) λus s1 ⟨vs,H1,I1,r1,q1⟩=>?_) (by rw[hs,hs2]) (by rw[hs2];rfl)));obtain⟨i,j,e,⟨q1,q2,q3,q4⟩,q⟩:=q1;subst e;cases r1 with
 | cons r rr =>
  cases rr with
  | cons r' rr =>
   cases rr
   obtain⟨t,rfl⟩:=r
   obtain⟨t',rfl⟩:=r'
   exact call_range_2 (pF I1 q1 q2 q3 q4 q)
noncomputable def Ir(wi:TI)(g:TG)(tb:TS):TS:=λD σ H=>wi σ H λJ H1=> ∃ W:Nat->Nat->St->Hp->Prop,(∃ m,W 0 m σ H1)/\ ∀ i m σ H,W i m σ H ->
 (J.stop i H/\D.nx σ H)\/(J.go i H/\ ∃ N ,(∀ σ' H',N σ' H'-> ∃ m',m' < m/\W (i+1) m' σ' H')/\ ∀ x H',J.B3 i H x H'->g x σ H' fun σ2 H2=>tb { D with nx:=N,ct:=N,bk:=D.nx} σ2 H2)
noncomputable def nE(fp:List NQ)(h:OQ):=fp.filterMap λb=>(h.get? b).map λo=>(b,o)
theorem cM(hb:b∈fp)(e:h.get? b=NG o):(b,o)∈nE fp h:=Rq.mpr ⟨b,hb,by rw[e];rfl⟩
theorem tK(hp:p∈nE fp h):p.1∈fp/\h.get? p.1=NG p.2:=by
 obtain⟨b,hb,e⟩:=Rq.mp hp;cases q:h.get? b with
 | none=>simp_all
 | some o =>
  rw[q] at e
  have e':=OF e
  subst e'
  exact⟨hb,q⟩
theorem Inv.pinned{σ :St}(I:Inv X pins σ H s)(hf: ∀ b∈fp,jN X pins H b)(ho: ∀ b∈fp,∃ o,s.heap.get? b=NG o/\ ∀ v,o.data≠ .cell v):Inv X (pins++nE fp s.heap) σ H s :=
 I.cP λp hp=>(ON.mp hp).elim (λz=>I.pin p (N9 _ z)) λz=>by
  obtain⟨hb,e⟩:=tK z;obtain⟨f0,f1,f2,_⟩:=hf p.1 hb;obtain⟨o,e',d⟩:=ho p.1 hb;rw[e] at e';cases e';exact⟨e,f0,f1,f2,d⟩
theorem Inv.jZ{σ :St}(I:Inv X (pins++pl) σ H s):Inv X pins σ H s:=I.cP λp hp=>I.pin p (N9 _ (O4 _ hp))
theorem GL(hp:Vf (Of X.prog X.w) X.A X.env X.xe)(hc:X.calm=true)(hi:PI X tg iter wi)(hg:PG X tg g)(hb:kO X body tb)
  (hs: ∀ x,Oq iter X.env x=pure x:=by intro _;rfl):PS X (.For tg iter body [] pos) (Ir wi g tb):=by
 intro pins s σ H D I h;refine wpAny_For (fB (hi pins s σ H _ I h) λv s1 h1=>fB h1 λitv s2 h2=>?_) hs;obtain ⟨it,fp,tn,J,H2,e,I2,T,st2,f2,W,⟨m0,w0⟩,turn⟩:=h2;subst e;have stat: ∀{H':Hp},(∀ b∈fp,H' b=NI)-> ∀ b∈fp,jN X pins H' b:=λhn b hb=>⟨hn b hb,(f2 b hb).2⟩
 refine codeAny_forLoop_any (λn s'=> ∃ i σ' H',Inv X pins σ' H' s'∧tn i s'.heap∧(∀ b∈fp,H' b=NI)∧W i n σ' H') ?_ m0 ⟨0, σ,H2,I2,st2,λb hb=>(f2 b hb).1,w0⟩;rintro n s3 ⟨i, σ3,H3,I3,st3,fr3,w3⟩;rcases turn i n σ3 H3 w3 with ⟨stop,qn⟩ | ⟨go,N,hN,step⟩
 . refine Rk hp (fB (T.done X rfl rfl rfl hc i pins s3 σ3 H3 X.xe I3 (stat fr3) st3 stop) λr s4 z9=>?_);obtain ⟨hr,I4⟩:=z9;subst hr;exact Rj ⟨σ3,H3,I4,qn⟩
 . refine Rk hp (fB (T.item X rfl rfl rfl hc i pins s3 σ3 H3 X.xe I3 (stat fr3) st3 go) λr s4 z9=>?_);obtain⟨u,hr,h4⟩:=z9;subst hr;refine Rk hp (fB h4 λ_ s5 z9=>?_);obtain⟨x,H5,I5,r5,y5,st5,fr5⟩:=z9;have I5':=I5.pinned (stat fr5) (T.obj _ _ st5);refine Rk hp (fB (hg _ s5 σ3 H5 x u _ I5' r5 (step x H5 y5)) λ_ s6 z9=>?_);obtain⟨σ6,H6,I6,q6⟩:=z9;refine Rk hp (fB (hb _ s6 σ6 H6 _ I6 q6) λf s7 q7=>?_);have again: ∀{σ7:St}{H7:Hp},Inv X (pins++nE fp s5.heap) σ7 H7 s7->N σ7 H7-> ∃ m,m < n∧ ∃ i σ' H',Inv X pins σ' H' s7∧tn i s7.heap∧(∀ b∈fp,H' b=NI)∧W i m σ' H':=λ{σ7 H7} I7 n7=>by
    obtain ⟨m',hm,w7⟩:=hN σ7 H7 n7;refine ⟨m',hm,i+1, σ7,H7,I7.jZ,T.keep _ _ _ st5 λb hb o e=>(I7.pin (b,o) (N9 _ (N9 _ (cM hb e)))).1,λb hb=>?_,w7⟩;obtain ⟨o,e,d⟩:=T.obj _ _ st5 b hb;exact (I7.pin (b,o) (N9 _ (N9 _ (cM hb e)))).2.1
   cases f with
   | next=>obtain ⟨σ7,H7,I7,n7⟩:=q7;exact again I7 n7
   | cont=>obtain ⟨σ7,H7,I7,n7⟩:=q7;exact again I7 n7
   | brk=>obtain ⟨σ7,H7,I7,q7⟩:=q7;exact ⟨σ7,H7,I7.jZ,q7⟩
   | ret v=>obtain ⟨x7, σ7,H7,I7,r7,q7⟩:=q7;exact ⟨x7, σ7,H7,I7.jZ,r7,q7⟩
end
abbrev R2:=V->V->Hp->VK->Prop
def bT X (f:NJ->NJ->Sem NJ) (r:R2) :=
 ∀ pins s(σ :St) H x y v u Q,Inv X pins σ H s->RelV x v->RelV y u->r x y H Q ->
  Ob (Of X.prog X.w) X.A (f v u) (EP X pins σ Q) X.xe s
def aP X (f:NJ) (r:List V->Hp->VK->Prop) :=
 ∀ pins s(σ :St) H xs us Q,Inv X pins σ H s->Vals xs us->r xs H Q ->
  Ob (Of X.prog X.w) X.A (call f us) (EP X pins σ Q) X.xe s
noncomputable def zB(r:R2)(ta tb:TE):TE:=fun σ H Q=>ta σ H λx H1=>tb σ H1 λy H2=>r x y H2 Q
noncomputable def rI(C:Int->Int->Prop)(g:Int->Int->V):R2:=λx y H Q=> ∃ i j,x= .int i/\y= .int j/\C i j/\Q (g i j) H
noncomputable def BB(g:Int->Int->V):R2:=λx y H Q=> ∃ i j,x= .int i/\y= .int j/\Q (g i j) H
section
variable{X:Cx}{a b c:Ou}{ta tb tc:TE}{pos:Pos}
theorem CH(ha:PE X a ta)(hb:PE X b tb){σ :St}{R:V->V->Hp->Prop}(I:Inv X pins σ H s)
  (h:ta σ H λx H1=>tb σ H1 λy H2=>R x y H2) {f:NJ->NJ->Sem NJ}
  (hf: ∀ v u s2 x y H2,Inv X pins σ H2 s2->RelV x v->RelV y u->R x y H2->Ob (Of X.prog X.w) X.A (f v u) Q X.xe s2) :
  Ob (Of X.prog X.w) X.A (Py a X.env) (λv s₁ =>Ob (Of X.prog X.w) X.A (Py b X.env) (λu s₂ =>Ob (Of X.prog X.w) X.A (f v u) Q X.xe s₂) X.xe s₁) X.xe s:=by
 refine jm (ha pins s σ H _ I h) λv s1 x H1 I1 r1 q1=>?_;refine jm (hb pins s1 σ H1 _ I1 q1) λu s2 y H2 I2 r2 q2=>?_;exact hf v u s2 x y H2 I2 r1 r2 q2
theorem Hc(ho:bT X (O3 op) r)(ha:PE X a ta)(hb:PE X b tb):PE X (.BinOp a op b pos) (zB r ta tb):=by
 intro pins s σ H Q I h;exact wpAny_BinOp (CH ha hb I h λv u s2 x y H2 I2 rx ry q=>ho pins s2 σ H2 x y v u Q I2 rx ry q)
theorem K8{f:NJ->NJ->Sem NJ}{C:Int->Int->Prop}{g:Int->Int->Int}
  (rule: ∀(i j:Int)(t u:Tok)(s:NO)(Q:NJ->NO->Prop)(E:NJ->NO->Prop),C i j->Q (.int (g i j) s.toks) { s with toks:=s.toks+1}->Ob (Of X.prog X.w) X.A (f (.int i t) (.int j u)) Q E s) :
  bT X f (rI C λi j=> .int (g i j)):=by
 intro pins s σ H x y v u Q I rx ry h;obtain⟨i,j,rfl,rfl,hc,q⟩:=h;obtain⟨t,rfl⟩:=rx;obtain⟨t',rfl⟩:=ry;exact rule i j t t' s _ _ hc ⟨.int (g i j),H,I.tok _,⟨_,rfl⟩,q⟩
theorem J9{f:NJ->NJ->Sem NJ}{g:Int->Int->Int}
  (rule: ∀(i j:Int)(t u:Tok)(s:NO)(Q:NJ->NO->Prop)(E:NJ->NO->Prop),Q (.int (g i j) s.toks) { s with toks:=s.toks+1}->Ob (Of X.prog X.w) X.A (f (.int i t) (.int j u)) Q E s) :
  bT X f (BB λi j=> .int (g i j)):=by
 intro pins s σ H x y v u Q I rx ry h;obtain⟨i,j,rfl,rfl,q⟩:=h;obtain⟨t,rfl⟩:=rx;obtain⟨t',rfl⟩:=ry;exact rule i j t t' s _ _ ⟨.int (g i j),H,I.tok _,⟨_,rfl⟩,q⟩
theorem FY{f:NJ->NJ->Sem NJ}{g:Int->Int->Bool}
  (rule: ∀(i j:Int)(t u:Tok)(s:NO)(Q:NJ->NO->Prop)(E:NJ->NO->Prop),Q (.bool (g i j)) s->Ob (Of X.prog X.w) X.A (f (.int i t) (.int j u)) Q E s) :
  bT X f (BB λi j=> .bl (g i j)):=by
 intro pins s σ H x y v u Q I rx ry h;obtain⟨i,j,rfl,rfl,q⟩:=h;obtain⟨t,rfl⟩:=rx;obtain⟨t',rfl⟩:=ry;exact rule i j t t' s _ _ ⟨.bl (g i j),H,I,rfl,q⟩
def LP(i j:Int):=0<=j/\j<=1000000/\i.natAbs < 2 ^ 64
def Gv i j:=(-(2 ^ 64) < i/\i < 2 ^ 64)\/(-(2 ^ 64) < j/\j < 2 ^ 64)
theorem Gv.ok(h:Gv i j):IntMulOk i j:=by
 rcases h with⟨h1,h2⟩ | ⟨h1,h2⟩
 . exact .of_left (intBits_le_64 h1 h2)
 . exact .of_right (intBits_le_64 h1 h2)
theorem C9:bT X (O3 .Add) (BB λi j=> .int (i+j)):=J9 λ_ _ _ _ _ _ _ q=>add_int q
theorem DG:bT X (O3 .Sub) (BB λi j=> .int (i - j)):=J9 λ_ _ _ _ _ _ _ q=>sub_int q
theorem EV:bT X (O3 .Mult) (rI Gv λi j=> .int (i*j)):=K8 λ_ _ _ _ _ _ _ hc q=>mul_int q hc.ok
theorem EG:bT X (O3 .Mod) (rI (λ_ j=>0 < j) λi j=> .int (i % j)):=K8 λi j _ _ _ _ _ hc q=>by
 exact mod_int' (by omega) (by rw[Int.fmod_eq_emod_of_nonneg i (by omega)];exact q)
theorem Gq:bT X (O3 .Pow) (rI LP λi j=> .int (i ^ j.toNat)):=K8 λ_ _ _ _ _ _ _ hc q=>pow_int_small hc.1 hc.2.1 hc.2.2 q
end
noncomputable def Ah:V->V->Bool
 | .non,.non=>true | .non,.int _=>true | .int _,.non=>true | .non,.bl _=>true | .bl _,.non=>true | .non,.str _=>true | .str _,.non=>true
 | .int _,.int _=>true | .bl _,.bl _=>true | .str _,.str _=>true | .byt _,.byt _=>true
 | .int _,.str _=>true | .str _,.int _=>true | .bl _,.str _=>true | .str _,.bl _=>true
 | _,_=>false
def Ni:R2:=λx y H Q=>Ah x y=true/\Q (.bl (decide (x=y))) H
def Ng:R2:=λx y H Q=>Ah x y=true/\Q (.bl (!decide (x=y))) H
theorem rE:decide (V.int i=V.int j)=(i == j):=by
 rw[Qc];simp
theorem uU:decide (V.bl i=V.bl j)=(i == j):=by
 rw[Qc];simp
theorem rq:decide (V.str i=V.str j)=(i == j):=by
 rw[Qc];simp
theorem rF:decide (V.byt i=V.byt j)=(i.toList == j.toList):=by
 rw[Qc];cases i;cases j;simp
section
variable{X:Cx}{a b c:Ou}{ta tb tc:TE}{pos:Pos}
theorem aK{pins:List (NQ × Obj)}{σ :St}{H:Hp}{s:NO}{Q:VK}{k k':Bool}(I:Inv X pins σ H s)(q:Q (.bl k) H)(e:k=k'):EP X pins σ Q (.bool k') s:=by
 subst e;exact⟨.bl k,H,I,rfl,q⟩
theorem Jm:bT X (Ol .Eq) Ni:=by
 intro pins s σ H x y v u Q I rx ry h;obtain⟨hs,q⟩:=h;cases x with
 | non =>
  cases rx
  cases y with
  | non=>cases ry;exact V4 (aK I q (by simp))
  | bl j=>cases ry;exact V5 (aK I q (by simp))
  | int j=>obtain⟨t',rfl⟩:=ry;exact Wf (aK I q (by simp))
  | str j=>obtain⟨t',rfl⟩:=ry;exact Wg (aK I q (by simp))
  | _=>exact absurd (show false=true from hs) N6
 | bl i =>
  cases rx
  cases y with
  | non=>cases ry;exact V6 (aK I q (by simp))
  | bl j=>cases ry;exact eq_bool (aK I q uU)
  | str j=>obtain⟨t',rfl⟩:=ry;exact V7 (aK I q (by simp))
  | _=>exact absurd (show false=true from hs) N6
 | int i =>
  obtain⟨t,rfl⟩:=rx
  cases y with
  | non=>cases ry;exact Wh (aK I q (by simp))
  | int j=>obtain⟨t',rfl⟩:=ry;exact eq_int (aK I q rE)
  | str j=>obtain⟨t',rfl⟩:=ry;exact Wi (aK I q (by simp))
  | _=>exact absurd (show false=true from hs) N6
 | str i =>
  obtain⟨t,rfl⟩:=rx
  cases y with
  | non=>cases ry;exact Wj (aK I q (by simp))
  | bl j=>cases ry;exact V8 (aK I q (by simp))
  | int j=>obtain⟨t',rfl⟩:=ry;exact Wk (aK I q (by simp))
  | str j=>obtain⟨t',rfl⟩:=ry;exact eq_str (aK I q rq)
  | _=>exact absurd (show false=true from hs) N6
 | byt i =>
  obtain⟨t,rfl⟩:=rx
  cases y with
  | byt j=>obtain⟨t',rfl⟩:=ry;exact PySem.W.eq_bytes (aK I q rF)
  | _=>exact absurd (show false=true from hs) N6
 | _=>cases y<;>exact absurd (show false=true from hs) N6
theorem II:bT X (Ol .NotEq) Ng:=by
 intro pins s σ H x y v u Q I rx ry h;obtain⟨hs,q⟩:=h;cases x with
 | non =>
  cases rx
  cases y with
  | non=>cases ry;exact V9 (aK I q (by simp))
  | bl j=>cases ry;exact Wa (aK I q (by simp))
  | int j=>obtain⟨t',rfl⟩:=ry;exact Wl (aK I q (by simp))
  | str j=>obtain⟨t',rfl⟩:=ry;exact Wm (aK I q (by simp))
  | _=>exact absurd (show false=true from hs) N6
 | bl i =>
  cases rx
  cases y with
  | non=>cases ry;exact Wb (aK I q (by simp))
  | bl j=>cases ry;exact ne_bool (aK I q (congrArg not uU))
  | str j=>obtain⟨t',rfl⟩:=ry;exact Wc (aK I q (by simp))
  | _=>exact absurd (show false=true from hs) N6
 | int i =>
  obtain⟨t,rfl⟩:=rx
  cases y with
  | non=>cases ry;exact Wn (aK I q (by simp))
  | int j=>obtain⟨t',rfl⟩:=ry;exact ne_int (aK I q (congrArg not rE))
  | str j=>obtain⟨t',rfl⟩:=ry;exact Wo (aK I q (by simp))
  | _=>exact absurd (show false=true from hs) N6
 | str i =>
  obtain⟨t,rfl⟩:=rx
  cases y with
  | non=>cases ry;exact Wq (aK I q (by simp))
  | bl j=>cases ry;exact Wd (aK I q (by simp))
  | int j=>obtain⟨t',rfl⟩:=ry;exact Wr (aK I q (by simp))
  | str j=>obtain⟨t',rfl⟩:=ry;exact ne_str (aK I q (congrArg not rq))
  | _=>exact absurd (show false=true from hs) N6
 | byt i =>
  obtain⟨t,rfl⟩:=rx
  cases y with
  | byt j=>obtain⟨t',rfl⟩:=ry;exact PySem.W.ne_bytes (aK I q (congrArg not rF))
  | _=>exact absurd (show false=true from hs) N6
 | _=>cases y<;>exact absurd (show false=true from hs) N6
theorem Ig:bT X (Ol .Lt) (BB λi j=> .bl (decide (i < j))):=FY λ_ _ _ _ _ _ _ q=>lt_int q
theorem Iw:bT X (Ol .LtE) (BB λi j=> .bl (decide (i<=j))):=FY λ_ _ _ _ _ _ _ q=>le_int q
theorem Ih:bT X (Ol .Gt) (BB λi j=> .bl (decide (j < i))):=FY λ_ _ _ _ _ _ _ q=>gt_int q
theorem t6:bT X (Ol .In) (λx y H Q=> ∃ i j,x= .str i/\y= .str j/\Q (.bl (!(OR j i 0 j.length 1).isEmpty)) H):=by
 intro pins s σ H x y v u Q I rx ry h;obtain⟨i,j,rfl,rfl,q⟩:=h;obtain⟨t,rfl⟩:=rx;obtain⟨t',rfl⟩:=ry;exact in_str (aK I q rfl)
theorem bT.or(h:bT X f r)(h':bT X f r'):bT X f (λx y H Q=>r x y H Q\/r' x y H Q):=by
 intro pins s σ H x y v u Q I rx ry q;rcases q with q | q
 . exact h pins s σ H x y v u Q I rx ry q
 . exact h' pins s σ H x y v u Q I rx ry q
theorem xV b (h:op≠ .In:=by decide) (h2:op≠ .NotIn:=by decide):Pl op b=false:=by
 have e1:(op == CmpOp.In)=false:=by simp_all
 have e2:(op == WS)=false:=by simp_all
 cases b<;>simp[Pl,e1,e2]
theorem Bg(ho:bT X (Ol op) r)(ha:PE X a ta)(hb:PE X b tb)(hm:Pl op b=false):PE X (.Compare a [op] [b] pos) (zB r ta tb):=by
 intro pins s σ H Q I h;exact wpAny_Compare1 (CH ha hb I h λv u s2 x y H2 I2 rx ry q=>ho pins s2 σ H2 x y v u Q I2 rx ry q) hm
noncomputable def pT(t:TE):TT:=fun σ H Q=>t σ H λx H'=> ∃ k,x= .bl k/\Q k H'
theorem BM(ho:bT X (Ol op) r)(ha:PE X a ta)(hb:PE X b tb)(hm:Pl op b=false):PT X (.Compare a [op] [b] pos) (pT (zB r ta tb)):=by
 intro pins s σ H Q I h;refine TL (jm (ha pins s σ H _ I h) λv s1 x H1 I1 r1 q1=>jm (hb pins s1 σ H1 _ I1 q1) λu s2 y H2 I2 r2 q2 =>
  jm (ho pins s2 σ H2 x y v u _ I2 r1 r2 q2) λc s3 z H3 I3 r3 ⟨k,e,q3⟩=>?_) hm
 subst e;cases r3;exact O2 ⟨H3,I3,q3⟩
noncomputable def j5(r r':R2)(ta tb tc:TE):TE:=fun σ H Q=>ta σ H λx H1=>tb σ H1 λy H2=>r x y H2 λz H3=> ∃ k,z= .bl k /\
 (if k=true then tc σ H3 λw' H4=>r' y w' H4 Q else Q (.bl false) H3)
theorem wD(ho:bT X (Ol op) r)(ho':bT X (Ol op') r')(ha:PE X a ta)(hb:PE X b tb)(hc:PE X c tc)
  (hm:S2 [op,op'] [b,c]=false:=by with_unfolding_all rfl):PE X (.Compare a [op,op'] [b,c] pos) (j5 r r' ta tb tc):=by
 intro pins s σ H Q I h;refine Compare_chain (jm (ha pins s σ H _ I h) λv s1 x H1 I1 r1 q1=>chain_link (jm (hb pins s1 σ H1 _ I1 q1) λu s2 y H2 I2 r2 q2 =>
  jm (ho pins s2 σ H2 x y v u _ I2 r1 r2 q2) λd s3 z H3 I3 r3 ⟨k,e,q3⟩=>?_)) hm
 subst e;cases r3;refine O2 ?_;cases k with
 | false=>exact ite_ff ⟨.bl false,H3,I3,rfl,q3⟩
 | true=>exact ite_tt (chain_last (jm (hc pins s3 σ H3 _ I3 q3) λw' s4 z' H4 I4 r4 q4=>ho' pins s4 σ H4 y z' u w' Q I4 r2 r4 q4))
theorem vh{op op':CmpOp}{r r':R2}(ho:bT X (Ol op) r)(ho':bT X (Ol op') r')(ha:PE X a ta)(hb:PE X b tb)(hc:PE X c tc)
  (hm:S2 [op,op'] [b,c]=false:=by with_unfolding_all rfl):PT X (.Compare a [op,op'] [b,c] pos) (pT (j5 r r' ta tb tc)):=by
 intro pins s σ H Q I h;refine isTrue_chain (fB (ha pins s σ H _ I h) λv s1 ⟨x,H1,I1,r1,q1⟩=>test_link (fB (hb pins s1 σ H1 _ I1 q1) λu s2 ⟨y,H2,I2,r2,q2⟩ =>
  fB (ho pins s2 σ H2 x y v u _ I2 r1 r2 q2) λd s3 ⟨z,H3,I3,r3,k,e,q3⟩=>?_)) hm
 subst e;cases r3;refine O2 ?_;cases k with
 | false =>
  obtain⟨k',e',q'⟩:=q3
  cases e'
  exact ite_ff ⟨H3,I3,q'⟩
 | true =>
  refine ite_tt (test_last (fB (hc pins s3 σ H3 _ I3 q3) λw' s4 ⟨z',H4,I4,r4,q4⟩=>fB (ho' pins s4 σ H4 y z' u w' _ I4 r2 r4 q4) λd' s5 ⟨z2,H5,I5,r5,k2,e2,q5⟩=>?_))
  subst e2
  cases r5
  exact O2 ⟨H5,I5,q5⟩
theorem iJ:(NZ) < 2 ^ 63:=by decide
theorem vals1(r:Vals [x] us): ∃ u,us=[u]/\RelV x u:=by
 cases r with
 | cons r1 r2=>cases r2;exact⟨_,rfl,r1⟩
theorem vals2(r:Vals [x,y] us): ∃ u w',us=[u,w']/\RelV x u/\RelV y w':=by
 cases r with
 | cons r1 r2 =>
  cases r2 with
  | cons r3 r4=>cases r4;exact⟨_,_,rfl,r1,r3⟩
theorem uF:aP X (.type "int") (λxs H Q=>(∃ i,xs=[.int i]/\Q (.int i) H)\/ ∃ k,xs=[.bl k]/\Q (.int (if k then 1 else 0)) H):=by
 intro pins s σ H xs us Q I r h;rcases h with⟨i,rfl,q⟩ | ⟨k,rfl,q⟩
 . obtain⟨u,rfl,t,rfl⟩:=vals1 r;exact call_int_int ⟨.int i,H,I,⟨_,rfl⟩,q⟩
 . obtain⟨u,rfl,r1⟩:=vals1 r;cases r1;exact call_int_bool ⟨.int (if k then 1 else 0),H,I.tok _,⟨_,rfl⟩,q⟩
end
structure Nb(h:OQ)(x dx C:NQ)(mA:Str->Option NJ):Prop where
 obj:h.get? x=NG (Qy C dx)
 ns:h.Ns1 dx mA
 ne:dx≠x
theorem sQ{h:OQ}(n:h.Ns1 dx mA): ∃ od,h.get? dx=NG od/\ ∀ name,TX name od=NG (mA name):=by
 obtain⟨o,es,ep,ho,hd,hk,_,hm⟩:=n;refine⟨o,ho,λname=>?_⟩;have e:=hm name;unfold nsFind findBy at e;rw[<- Array.find?_toList] at e;unfold TX;rw[hd];dsimp only;split
 . rename_i y q;rw[q] at e;exact congrArg NG e
 . rename_i q;rw[q] at e;have a:es.toList.any (·.refKey)=false:=by
    rw[List.any_eq_false];intro y hy;obtain⟨z,t,hkey⟩:=hk y (Array.mem_toList_iff.mp hy);simp[DictEntry.refKey,hkey]
   have a': ¬ es.toList.any (·.refKey)=true:=by rw[a];exact N6
   rw[if_neg a'];exact congrArg NG e
noncomputable def dQ(f:Str)(v:V):List (Str × V)->List (Str × V)
 | []=>[(f,v)]
 | (g,x)::r=>if g=f then(g,v)::r else(g,x)::dQ f v r
theorem iX(f g:Str)(v:V): ∀ fs:List (Str × V),(dQ f v fs).lookup g=if g=f then NG v else fs.lookup g
 | []=>by
  show Rv g [(f,v)]=_;by_cases h:g=f
  . have hb:(g == f)=true:=beq_iff_eq.mpr h;simp only[Rv,hb,if_pos h]
  . have hb:(g == f)=false:=beq_eq_false_iff_ne.mpr h;simp only[Rv,hb,if_neg h]
 | (k,x)::r=>by
  have ih:=iX f g v r;rw[show dQ f v ((k,x)::r)=(if k=f then(k,v)::r else(k,x)::dQ f v r) from rfl];by_cases hk:k=f
  . rw[if_pos hk];by_cases h:g=k
    . have hb:(g == k)=true:=beq_iff_eq.mpr h;simp only[Rv,hb,if_pos (h.trans hk)]
    . have hb:(g == k)=false:=beq_eq_false_iff_ne.mpr h;simp only[Rv,hb,if_neg (λe:g=f=>h (e.trans hk.symm))]
  . rw[if_neg hk];by_cases h:g=k
    . have hb:(g == k)=true:=beq_iff_eq.mpr h;simp only[Rv,hb,if_neg (λe:g=f=>hk (h.symm.trans e))]
    . have hb:(g == k)=false:=beq_eq_false_iff_ne.mpr h;simp only[Rv,hb];exact ih
theorem iD(f:Str)(v:V): ∀ fs:List (Str × V),f∈(dQ f v fs).map (·.1)/\ ∀ g,g∈fs.map (·.1)->g∈(dQ f v fs).map (·.1)
 | []=>⟨by simp[dQ],λg h=>by simp at h⟩
 | (k,x)::r=>by
  obtain⟨i1,i2⟩:=iD f v r;rw[show dQ f v ((k,x)::r)=(if k=f then(k,v)::r else(k,x)::dQ f v r) from rfl];by_cases hk:k=f
  . rw[if_pos hk];subst hk;exact⟨by simp,λg h=>by simpa using h⟩
  . rw[if_neg hk];refine⟨?_,λg h=>?_⟩
    . rw[NR];exact NW _ i1
    . rw[NR] at h ⊢;rcases Ot.mp h with e | e
      . exact Ot.mpr (.inl e)
      . exact NW _ (i2 g e)
theorem je(f:Str)(v:V): ∀ fs:List (Str × V),(dQ f v fs).length<=fs.length+1
 | []=>by simp[dQ]
 | (k,x)::r=>by
  have ih:=je f v r;rw[show dQ f v ((k,x)::r)=(if k=f then(k,v)::r else(k,x)::dQ f v r) from rfl];by_cases hk:k=f
  . rw[if_pos hk,NK,NK];omega
  . rw[if_neg hk,NK,NK];omega
theorem eY.some_of(r:eY (NG v) o): ∃ u,o=NG u/\RelV v u:=by
 cases o with
 | none=>exact(show False from r).elim
 | some u=>exact⟨u,rfl,r⟩
theorem tf{v:V}{u:NJ}(r:RelV v u):Vg u=true:=by
 cases v with
 | non=>cases(show u=OW from r);rfl
 | bl b=>cases(show u=Sq b from r);rfl
 | int i=>obtain⟨t,e⟩:=(show ∃ t,u=Ui i t from r);cases e;rfl
 | str x=>obtain⟨t,e⟩:=(show ∃ t,u=Uj x t from r);cases e;rfl
 | byt b=>obtain⟨t,e⟩:=(show ∃ t,u=WO b t from r);cases e;rfl
 | flt b=>obtain⟨t,e⟩:=(show ∃ t,u=WQ b t from r);cases e;rfl
 | ref a=>cases(show u=Oe a from r);rfl
 | ty n=>cases(show u=VP n from r);rfl
structure KL(K:NH)(C:NQ):Prop where
 pg:Vh K C Str.empty=true
 hd:RC K C=true
 po:PySem.W.plainOver K C=true
 sa:Oc K (.ref C) "__setattr__" =NG (NG (.builtin "object.__setattr__"))
theorem KL.get{K}(c:KL K C) f:Vh K C f=true:=c.pg
def Ga(K:NH)(C:NQ)(f:Str):Prop:=Oc K (.ref C) f=NG NI
structure Nz(K:NH)(C:NQ)(f:Str)(v:V)(u:NJ):Prop where
 at_:Oc K (.ref C) f=NG (NG u)
 rel:RelV v u
 get:UY K u "__get__" =NG NI
 cp:PySem.W.copiedNames.contains f=false
structure Meth(K:NH)(C:NQ)(m:Str)(f:NQ):Prop where
 at_:Oc K (.ref C) m=NG (NG (.ref f))
 fn:UZ K (.ref f)=true
 kp:OZ K (.ref f)=true
section
variable{X:Cx}{pins:List (NQ × Obj)}{σ :St}{H:Hp}{s:NO}{a C dx:NQ}{fs:List (Str × V)}{f:Str}{v:V}{A:OI}{E:NJ->NO->Prop}
theorem Inv.made(I:Inv X pins σ H s):Inv X pins σ (upd (upd H s.heap.objs.size (.own (s.heap.objs.size+1))) (s.heap.objs.size+1) (.ins C s.heap.objs.size []))
  { s with heap:=(s.heap.push Po).push (Qy C s.heap.objs.size)}:=by
 have e1:(s.heap.push Po).get? s.heap.objs.size=NG Po:=Oh s.heap rfl;have e2:((s.heap.push Po).push (Qy C s.heap.objs.size)).get? (s.heap.objs.size+1)=NG (Qy C s.heap.objs.size):=by
  have:=Oh (s.heap.push Po) (o:=Qy C s.heap.objs.size) rfl
  rwa [O6] at this
 have e3:(s.heap.push Po).Ns s.heap.objs.size (λ_=>NI):=⟨Po, #[],_,e1,rfl,(λe he=>absurd he (by simp)),λ_=>rfl⟩
 have I1:=I.laid (a:=s.heap.objs.size) (o:= .own (s.heap.objs.size+1)) (h':=s.heap.push Po) (t':=s.toks) (λb u q=>NT _ q) (NS _) ⟨_,e1⟩;refine I1.laid (a:=s.heap.objs.size+1) (o:= .ins C s.heap.objs.size []) (t':=s.toks) (λb u q=>NT _ q) (Te (O6 _ _)) ?_;have ne:s.heap.objs.size≠s.heap.objs.size+1:=Og (Vi _);refine⟨by rw[aq ne,aT],OU _,ne,e2,λ_=>NI,(U0 e3).at λo q=>NT _ q,λ_=>Tf,λy hy=>absurd rfl hy⟩
theorem A0{prog:Om}{w:OC}{env:Env}{e:Ou}{f:Str}{pos:Pos}{s:NO}{Q:NJ->NO->Prop}(hb:Qe e f env (Py e env)=Py e env)
  (h:Ob (Of prog w) A (Py e env) (λo s₁ =>Ob (Of prog w) A (getAttr o f true) Q E s₁) E s):Ob (Of prog w) A (Py (.Attribute e f pos) env) Q E s :=
 Attribute_any_ h (by rw[arm_eval_Attribute,hb])
end
section
variable{X:Cx}{pins:List (NQ × Obj)}{σ :St}{H:Hp}{s:NO}{A:OI}{E:NJ->NO->Prop}{Q:NJ->NO->Prop}{c:NJ}{b:Bool}
inductive km(K:NH)(H:Hp):V->NJ->Prop where
 | non:km K H .non (.type "NoneType")
 | bl (x:Bool):km K H (.bl x) (.type "bool")
 | int (i:Int):km K H (.int i) (.type "int")
 | str (x:Str):km K H (.str x) (.type "str")
 | flt (x:UInt64):km K H (.flt x) (.type "float")
 | lst {a:NQ} {xs:List V} (e:H a=NG (.lst xs)):km K H (.ref a) (.type "list")
 | dw {a:NQ} {o:Obj} {xs:List V} (e:H a=NG (.dw o (.lst xs))):km K H (.ref a) (.type "list")
 | tup {a:NQ} {xs:List V} (e:H a=NG (.tup xs)):km K H (.ref a) (.type "tuple")
 | dK {a:NQ} {kvs:List (Key × V)} (e:H a=NG (.dK kvs)):km K H (.ref a) (.type "dict")
 | dT {a:NQ} {kvs:List (List Key × V)} (e:H a=NG (.dT kvs)):km K H (.ref a) (.type "dict")
 | ins {a C dx:NQ} {fs:List (Str × V)} (e:H a=NG (.ins C dx fs)) (cl:KL K C) (ha:Oc K (.ref C) "__class__" =NG (NG (.builtin "object.__class__")))
   (hn:UY K (.builtin "object.__class__") "__get__" =NG (NG (.builtin "getset_descriptor.__get__"))) (htk:PySem.W.takesIn K (.builtin "object.__class__")=NG true)
   (hm:O0 K C (.type "object")=NG true):km K H (.ref a) (.ref C)
end
structure bZ(k:Nat)(A:OI):Prop where
 hd:A.handled=NI
 dp:A.depth+3*k+5 < RD
 un:A.units+16*k+200 < RE
 gd:A.guards=NG []
theorem bZ.mono(r:bZ k A)(h:j<=k):bZ j A:=⟨r.hd,by have:=r.dp;omega,by have:=r.un;omega,r.gd⟩
theorem bZ.deeper(r:bZ (k+1) A) env:bZ k (A.deeper env) :=
 ⟨r.hd,by have:=r.dp;show A.depth+1+3*k+5 < _;omega,by have:=r.un;show A.units+3+16*k+200 < _;omega,r.gd⟩
theorem bZ.in1(r:bZ (k+1) A):bZ k A.in1 :=
 ⟨r.hd,by have:=r.dp;show A.depth+3*k+5 < _;omega,by have:=r.un;show A.units+1+16*k+200 < _;omega,r.gd⟩
theorem qE{A:OI}{C:NQ}{us:List NJ}{kw:List (Str × NJ)}:(A.under (.builtin "type.__call__" ⟨.ref C::us,kw⟩)).depth=A.depth+1:=by
 first | rfl | simp[WG,Code.weight,Code.isCreation,Code.isGuard,Code.isCaller,Code.frames,WH,guardIds]
theorem bZ.depth(r:bZ k A):A.depth < RD:=by have:=r.dp;omega
theorem bZ.units(r:bZ k A):A.units+64 < RE:=by have:=r.un;omega
theorem bZ.De(r:bZ k A):A.units < RE:=by have:=r.un;omega
noncomputable def vz:TA:=λ_ H Q=>Q [] H
noncomputable def jd(ta:TE)(tr:TA):TA:=fun σ H Q=>ta σ H λx H1=>tr σ H1 λxs H2=>Q (x::xs) H2
section
variable{X:Cx}{e:Ou}{es:List Ou}{te:TE}{t:TA}{pos:Pos}
theorem gA:PA X [] vz:=λ_ _ _ _ H Q I h=>Calls.spliced_nil ⟨[],H,I,.nil,h⟩
theorem cR(ha:PE X e te)(hr:PA X es t)(hs:Oy (e::es) X.env=(false,Py e X.env)::Oy es X.env:=by rfl):PA X (e::es) (jd te t):=by
 intro pos pins s σ H Q I h;rw[hs];show Ob _ _ (spliced ((false,Py e X.env)::Ro pos (Oy es X.env))) _ _ s;refine Calls.spliced_cons (jm (ha pins s σ H _ I h) λu s1 x H1 I1 r1 q1=>?_);exact BX (hr pos pins s1 σ H1 _ I1 q1) λus s2 xs H2 I2 r2 q2=>⟨x::xs,H2,I2,.cons r1 r2,q2⟩
def Bf(t:TA):TE:=fun σ H Q=>t σ H λxs H1=>xs.length<=NZ/\ ∀ p,H1 p=NI->Q (.ref p) (upd H1 p (.tup xs))
def HG(t:TA):TE:=fun σ H Q=>t σ H λxs H1=>xs.length<=NZ/\ ∀ p,H1 p=NI->Q (.ref p) (upd H1 p (.lst xs))
theorem uT(h:PA X es t):PE X (.Tuple es x1 pos) (Bf t):=by
 intro pins s σ H Q I hq;refine wpAny_Tuple_spliced (BX (h pos pins s σ H _ I hq) λus s1 xs H1 I1 r ⟨z,q⟩=>⟨by rw[<- r.length];exact z,?_⟩);have hf:=I1.aW.fresh (NS _);refine⟨.ref s1.heap.objs.size,upd H1 s1.heap.objs.size (.tup xs),I1.laid (t':=s1.toks) (λb u e=>NT _ e) (NS _) ?_,rfl,q _ hf⟩;exact⟨z,us,r,⟨_,Oh _ rfl,rfl,_,rfl,rfl⟩⟩
theorem GI(h:PA X es t):PE X (.List es pos) (HG t):=by
 intro pins s σ H Q I hq;refine wpAny_List_spliced (BX (h pos pins s σ H _ I hq) λus s1 xs H1 I1 r ⟨z,q⟩=>⟨by rw[<- r.length];exact z,?_⟩);have hf:=I1.aW.fresh (NS _);refine⟨.ref s1.heap.objs.size,upd H1 s1.heap.objs.size (.lst xs),I1.laid (t':=s1.toks) (λb u e=>NT _ e) (NS _) ?_,rfl,q _ hf⟩;exact⟨z,us,0,r,Oh _ rfl⟩
end
abbrev Sp:=List V->Hp->VK->XK->Prop
abbrev ym:=List Env->Hp->NO->XK->NJ->NO->Prop
structure jK(P:Om)(w:OC)(K:NH)(mg:Str->Option NJ)(base:OQ)(A:OI)(outer:List Env)(s:NO)(H:Hp):Prop where
 frames:A.frames=NG outer
 mod:Mod K mg base
 bs: ∀ b o,base.get? b=NG o->s.heap.get? b=NG o/\H b=NI
 rn:base.objs.size<=s.heap.objs.size
 eV:s.heap.FunFrames base outer
 uJ: ∀ b∈ez outer,H b=NI
 aW:fb P w H s.heap
 bare:Q1 s.gens
def CE(outer:List Env)(P:Om)(w:OC) H (s:NO) (Q:VK) (u:NJ) (s':NO) :=
 ∃ v H',s'.os=s.os/\Q1 s'.gens/\Un (ez outer) [] H H' s.heap s'.heap/\fb P w H' s'.heap/\RelV v u/\Q v H'
def CR(CX:ym)(outer:List Env)(P:Om)(w:OC) H (s:NO) Q E (r:Result) (s':NO) :=
 match r with
 | .ok (.ret u)=>CE outer P w H s Q u s'
 | .ok _=>False
 | .error e=>CX outer H s E e s'
structure fV(P:Om)(w:OC)(K:NH)(mg:Str->Option NJ)(base:OQ)(CX:ym)(k:Nat)(f:NQ)(fd:P5)(ps:List Str)(sp:Sp):Prop where
 len: ∀ vs H Q E,sp vs H Q E->vs.length=ps.length
 run: ∀(A:OI)(outer:List Env)(s:NO)(H:Hp)(args:Args)(us:List NJ)(vs:List V)(Q:VK)(E:XK),bZ k A->jK P w K mg base A outer s H->SJ s fd args (ps.zip us)->Vals vs us->sp vs H Q E ->
  Si (Of P w) A (.call (.ref f) args) (CR CX outer P w H s Q E) s
theorem fV.imp{K}(F:fV P w K mg base CX k f fd ps sp)
  (h: ∀ vs H Q E,sp' vs H Q E->sp vs H Q E):fV P w K mg base CX k f fd ps sp' :=
 ⟨λvs H Q E q=>F.len vs H Q E (h _ _ _ _ q),λA outer s H args us vs Q E hr he hb hv hs=>F.run A outer s H args us vs Q E hr he hb hv (h _ _ _ _ hs)⟩
theorem jK.make{P:Om}{w:OC}{K:NH}{mg:Str->Option NJ}{base:OQ}{A:OI}{outer:List Env}{s:NO}{H:Hp}(e:jK P w K mg base A outer s H)(C:NQ)(us:List NJ)(kw:List (Str × NJ)) :
  jK P w K mg base (A.under (.builtin "type.__call__" ⟨.ref C::us,kw⟩)) outer s H:=⟨by first | exact e.frames | (simpa [WG,Code.envs,WH,pushEnvs] using e.frames),e.mod,e.bs,e.rn,e.eV,e.uJ,e.aW,e.bare⟩
theorem jK.in1{K}(e:jK P w K mg base A outer s H) :
  jK P w K mg base A.in1 outer s H:=⟨e.frames,e.mod,e.bs,e.rn,e.eV,e.uJ,e.aW,e.bare⟩
section
variable{X:Cx}{pins:List (NQ × Obj)}{σ :St}{H:Hp}{s s':NO}
theorem Inv.iC(I:Inv X pins σ H s):jK X.prog X.w X.K X.mg X.base X.A X.stack s H :=
 ⟨I.ok.frames,I.ok.mod,I.bs,N5 I.ok.rn I.sz,I.stack,I.hZ,I.aW,I.bare⟩
theorem Inv.after(I:Inv X pins σ H s)(h:CE X.stack X.prog X.w H s Q u s'):EP X pins σ Q u s':=by
 obtain⟨v,H',os,bare,un,aW,r,q⟩:=h;obtain⟨hh,g,d,t,os'⟩:=s';obtain rfl:os'=s.os:=os;exact⟨v,H',I.call (h':=hh) (g':=g) (d':=d) (t':=t) (ch:=[]) un aW bare (λb z=>absurd z (by simp)),r,q⟩
end
noncomputable def pd(sp:Sp)(Cj:List V)(E:XK)(t:TA):TE:=fun σ H Q=>t σ H λvs H1=>sp (vs++Cj) H1 Q E
def Binds(K:NH)(fd:P5)(ps:List Str)(ds:List NJ) :=
 ∀ s us,K.In s.heap->(us++ds).length=ps.length->SJ s fd ⟨us,[]⟩ (ps.zip (us++ds))
theorem Binds.all{K}(h: ∀ us ,us.length=ps.length->Pw fd ⟨us,[]⟩=pure (ps.zip us)):Binds K fd ps []:=λs us _ hl=>by
 rw[Ov] at hl ⊢;exact .of_eq (h us hl)
def Passes(CX:ym) X E:= ∀ pins(σ :St) H s e s',Inv X pins σ H s->CX X.stack H s E e s'->X.xe e s'
section
variable{X:Cx}{CX:ym}{k:Nat}{f C:NQ}{fd:P5}{ps:List Str}{sp:Sp}{Cj:List V}{ds:List NJ}{E:XK}{x m:Str}{p pos apos:Pos}{e o:Ou}{es:List Ou}{ta:TE}{t:TA}
theorem FG{σ :St}(F:fV X.prog X.w X.K X.mg X.base CX k f fd ps sp)(hr:bZ k X.A)(hb:Binds X.K fd ps ds)(hd:Vals Cj ds)(hx:Passes CX X E)
  (I:Inv X pins σ H s) (r:Vals vs us) (h:sp (vs++Cj) H Q E):Ob (Of X.prog X.w) X.A (call (.ref f) us) (EP X pins σ Q) X.xe s:=by
 have r2:=r.append hd;have hl:(us++ds).length=ps.length:=by rw[<- r2.length];exact F.len _ _ _ _ h
 refine Ss (Tg (F.run X.A X.stack s H ⟨us,[]⟩ (us++ds) (vs++Cj) Q E hr I.iC (hb s us I.qA hl) r2 h) λr s' hq=>?_);cases r with
 | error e=>exact hx pins σ H s e s' I hq
 | ok fl =>
  cases fl with
  | ret u=>exact I.after hq
  | next=>exact Pz hq
  | brk=>exact Pz hq
  | cont=>exact Pz hq
theorem rO(F:fV X.prog X.w X.K X.mg X.base CX k f fd ps sp)(hr:bZ k X.A)(hg:Gl X x)(hm:X.mg x=NG (.ref f))(hk:OZ X.K (.ref f)=true)(hb:Binds X.K fd ps ds)(hd:Vals Cj ds)(hx:Passes CX X E)
  (ha:PA X (e::es) t) (hdb:(x == ("__debug__"))=false:=by decide) (he:Oy (e::es) X.env=(false,Py e X.env)::Oy es X.env:=by rfl) (hpl:(Ro pos (Oy es X.env)).any (·.1)=false:=by rfl) :
  PE X (.Call (.Name x p) (e::es) [] pos) (pd sp Cj E t):=by
 intro pins s σ H Q I h;refine Rr (jy I hg hm ?_ hdb);refine UH (h₀ :=X.base) I.ok.mod.HJ hk (BX (ha pos pins s σ H _ I h) λus s1 vs H1 I1 r q=>⟨I1.qA,?_⟩) he hpl;exact FG F hr hb hd hx I1 r q
structure Mk(K:NH)(C f:NQ):Prop where
 makes:VC K C=true
 init:Oc K (.ref C) "__init__" =NG (NG (.ref f))
 fn:UZ K (.ref f)=true
 kp:OZ K (.ref C)=true
end
section
variable{X:Cx}{CX:ym}{k:Nat}{f C:NQ}{fd:P5}{ps ks:List Str}{sp:Sp}{E:XK}{x m:Str}{p pos apos kpos:Pos}{e o:Ou}{es:List Ou}{kws:List Ul}{te ta:TE}{t tk:TA}{nm:Option Str}
structure LD(K:NH)(fd:P5)(ps ks:List Str)(g:List NJ->List NJ->List NJ)(gV:List V->List V->List V):Prop where
 to: ∀(s:NO)(us ws:List NJ),K.In s.heap->(g us ws).length=ps.length->SJ s fd ⟨us,ks.zip ws⟩ (ps.zip (g us ws))
 rel: ∀{vs:List V}{us:List NJ}{zs:List V}{ws:List NJ},Vals vs us->Vals zs ws->Vals (gV vs zs) (g us ws)
variable{g:List NJ->List NJ->List NJ}{gV:List V->List V->List V}
end
structure br(N P:List Str)(sc:Q5):Prop where
 kind:sc.kind= .function
 co:sc.isCoroutine=false
 gen:sc.isGenerator=false
 nd:N.Nodup
 pre:N.take P.length=P
 par: ∀ x∈P,sc.names.lookup x=NG .local\/sc.names.lookup x=NG .cell
 EO: ∀ y∈sc.names,y.2≠ .free
theorem lY{kindOf}: ∀{binds m},(∀ v,(x,v) ∉ binds)->Wy kindOf binds m x=m x
 | [],_,_=>rfl
 | (n,v)::r,m,h=>by
  unfold Wy;rw[lY λw hw=>h w (NW _ hw)];split
  . have:x≠n:=by rintro rfl;exact h v N1
    simp[this]
  . rfl
theorem lU{kindOf}: ∀{binds m},(∀ v,(x,v) ∉ binds)->Wz kindOf binds m x=m x
 | [],_,_=>rfl
 | (n,v)::r,m,h=>by
  unfold Wz;rw[lU λw hw=>h w (NW _ hw)];split
  . rfl
  . have:x≠n:=by rintro rfl;exact h v N1
    simp[this]
theorem lq{kindOf:Str->Option R1}{x:Str}{v:NJ}: ∀{P:List Str}{vs:List NJ}{i:Nat}{m:Str->Option NJ},P.Nodup->P[i]?=NG x->vs[i]?=NG v->kindOf x=NG .local ->
  Wy kindOf (P.zip vs) m x=NG v
 | [],_,_,_,_,h,_,_=>by simp at h
 | _::_,[],_,_,_,_,h,_=>by simp at h
 | p::P,w::vs,0,m,nd,h1,h2,hk=>by
  simp at h1 h2;subst h1;subst h2;show Wy kindOf ((p,w)::P.zip vs) m p=_;unfold Wy;rw[lY λv hv=>(Rl.mp nd).1 (R7 hv).1,if_pos hk];simp
 | p::P,w::vs,i+1,m,nd,h1,h2,hk=>by
  unfold Wy;exact lq (i:=i) (Rl.mp nd).2 (by simpa using h1) (by simpa using h2) hk
theorem lz{kindOf:Str->Option R1}{x:Str}{v:NJ}: ∀{P:List Str}{vs:List NJ}{i:Nat}{m:Str->Option NJ},P.Nodup->P[i]?=NG x->vs[i]?=NG v->kindOf x≠NG .local ->
  Wz kindOf (P.zip vs) m x=NG v
 | [],_,_,_,_,h,_,_=>by simp at h
 | _::_,[],_,_,_,_,h,_=>by simp at h
 | p::P,w::vs,0,m,nd,h1,h2,hk=>by
  simp at h1 h2;subst h1;subst h2;show Wz kindOf ((p,w)::P.zip vs) m p=_;unfold Wz;rw[lU λv hv=>(Rl.mp nd).1 (R7 hv).1,if_neg hk];simp
 | p::P,w::vs,i+1,m,nd,h1,h2,hk=>by
  unfold Wz;exact lz (i:=i) (Rl.mp nd).2 (by simpa using h1) (by simpa using h2) hk
noncomputable def start(N:List Str)(vs:List V):St:=vs.map NG++NM (N.length - vs.length) NI
noncomputable def cJ(CX:ym)(P:Om)(w:OC)(K:NH)(mg:Str->Option NJ)(base:OQ)(N:List Str)(qual:Str)(scope:Q5)(f:NQ)(cd:NJ)(A:OI)(outer:List Env)(s:NO)(H:Hp)(E:XK):Cx where
 prog:=P
 w:=w
 K:=K
 mg:=mg
 base:=base
 A:=A.deeper (QU qual scope s.heap.objs.size f cd)
 N:=N
 s₀ :=s
 H₀ :=H
 env:=QU qual scope s.heap.objs.size f cd
 outer:=outer
 stack:=QU qual scope s.heap.objs.size f cd::outer
 ex:=[]
 calm:=true
 fn:=λ_=>true
 pn:=[]
 xe:=λe s'=>Ob (Of P w) (A.deeper (QU qual scope s.heap.objs.size f cd)) (leaving (QU qual scope s.heap.objs.size f cd) e) (λ_ s''=>CX outer H s E e s'') (λe' s''=>CX outer H s E e' s'') s'
theorem pG{sc:Q5}(h:sc.names.lookup x=NG .cell): ∃ c,(P4 n sc.names []).lookup x=NG c:=by
 have q:=Qt sc.names n [] (.inl h);exact Pe.mp q
theorem lr{K} 
  (S:br N ps scope) (hd:A.handled=NI) (e0:jK P w K mg base A outer s H) (hl:vs.length=ps.length) (r:Vals vs us)
  (x:InCallC s s.heap.objs.size (Wy (QU qual scope s.heap.objs.size f cd).kindOf (ps.zip us) λ_=>NI) (P4 (s.heap.objs.size+1) scope.names []) (Wz (QU qual scope s.heap.objs.size f cd).kindOf (ps.zip us) λ_=>NI) s1) :
  Inv (cJ CX P w K mg base N qual scope f cd A outer s H E) [] (start N vs) H s1:=by
 have hpl:ps.length<=N.length:=by have:=congrArg WT S.pre;rw[OJ] at this;omega
 obtain⟨h1,tk,rfl,hk⟩:=x.done;have noA: ∀ b:NQ,b ∉ (cJ CX P w K mg base N qual scope f cd A outer s H E).ex:=λb z=>absurd (show b∈([]) from z) (by simp);refine⟨⟨e0.mod,S.kind,rfl,rfl,NS _,λy z c h1 h2=>?_,λy hy=>?_,λy c _ h=>?_,λ_=>hd,Around.frames_deeper e0.frames,.inr ⟨rfl,rfl⟩,λb z=>absurd z (noA b),e0.bs,e0.rn,λb _ _=>noA b,λb z=>absurd z (noA b),e0.eV,e0.uJ⟩,
  rfl,e0.bare,Un.kept hk,⟨_,x.toInCall.ns,λi y v h1 h2 h3=>?_⟩,λy c h=>⟨_,x.cell y c h⟩,e0.aW.fresh (NS _),λy c h=>?_,λp hp=>absurd (show p∈([]) from hp) (by simp),e0.aW.kept hk,?_⟩
 . exact name_of_addr x.apart (Qk h1) (Qk h2)
 . rcases hy with hy | hy
   . exact pG hy
   . exact absurd rfl (S.EO _ (Qk hy))
 . exact Sh (x.above y c (Qk h))
 . have hi:i < vs.length:=by
    unfold start at h2;by_cases hi:i < vs.length
    . exact hi
    . rw[Oz (by simpa using hi)] at h2;rw[Pk] at h2;split at h2<;>cases h2
   have ha:vs[i]?=NG v:=by
    unfold start at h2;rw[N3 (by simpa using hi),OD] at h2;cases e:vs[i]? with
    | none=>simp_all
    | some a=>simp_all
   obtain⟨u,hu,rv⟩:=r.get ha;have hp:ps[i]?=NG y:=by
    rw[<- S.pre,List.getElem?_take_of_lt (by omega)];exact h1
   have ndP:ps.Nodup:=by rw[<- S.pre];exact S.nd.sublist (List.take_sublist _ _)
   refine⟨u,rv,?_⟩;rcases S.par y (OV hp) with k | k
   . exact .inl ⟨k,lq ndP hp hu k⟩
   . obtain⟨c,e⟩:=pG (n:=s.heap.objs.size+1) k;refine .inr ⟨.inl k,c,e,?_⟩;have q:=x.cell y c e;rw[lz ndP hp hu (by show scope.names.lookup y≠_;rw[k];decide)] at q;exact q
 . exact e0.aW.fresh (Sh (x.above y c (Qk h)))
 . unfold start;show _=N.length;rw [NX,NU,RQ];omega
theorem B9{K kV} 
       (lk : K.lookup f = some ⟨oc, od, .func (PySem.W.fnOf name qual params body scope dV kV doc pm an cdv ct), osl⟩) (hcd : PySem.W.codeIn K cdv qual = true) (S : br N ps scope)
    (len : ∀ vs H Q E, sp vs H Q E -> vs.length = ps.length)
    (hbody : ∀ A outer s H vs Q E, bZ k (A.deeper (QU qual scope s.heap.objs.size f cdv)) -> sp vs H Q E ->
      ∃ t, kO (cJ CX P w K mg base N qual scope f cdv A outer s H E) body t /\ t { nx := λ_ H' => Q .non H', rt := Q} (start N vs) H) :
    fV P w K mg base CX (k + 1) f (OA name qual params body scope dV kV doc pm an cdv ct) ps sp := by
  refine ⟨len, λA outer s H args us vs Q E hr e0 hb r hsp => ?_⟩;have hl := len _ _ _ _ hsp;have KX := e0.mod.HJ.keeps λb o e => (e0.bs b o e).1;have lim := e0.mod.nolimit.keeps λb o e => (e0.bs b o e).1;have hkind : ∀ y ∈ ps.zip us, scope.names.lookup y.1 = NG .local ∨ (scope.names.lookup y.1 = NG .cell /\ ((P4 (s.heap.objs.size + 1) scope.names []).lookup y.1).isSome = true) := λ⟨n, v⟩ hy => by
    rcases S.par n (R7 hy).1 with q | q
    . exact .inl q
    . exact .inr ⟨q, Qt _ _ _ (.inl q)⟩
  refine TM hr.depth (KX _ _ lk) rfl S.co S.gen rfl (UI KX hcd) (hb _ _ _ _ ?_);refine Su S.kind hkind λenv he s1 x => ?_;subst he;refine ⟨lim.keeps x.toInCall.keep, codeAny_func ?_⟩;obtain ⟨t, ht, hq⟩ := hbody A outer s H vs Q E (hr.deeper _) hsp;have I : Inv (cJ CX P w K mg base N qual scope f cdv A outer s H E) [] (start N vs) H s1 := lr S hr.hd e0 hl r x;refine Oj (ht [] s1 (start N vs) H _ I hq) (λfl s' hs => ?_) λe s' hs => hs;have fin : ∀{σ' : St}{H' : Hp}{v : V}{u : NJ}, Inv (cJ CX P w K mg base N qual scope f cdv A outer s H E) [] σ' H' s' -> RelV v u -> Q v H' -> CE outer P w H s Q u s' :=
    λ{σ' H' v u} J rv q => ⟨v, H', J.os, J.bare, J.base, J.aW, rv, q⟩
  cases fl with
  | ret u =>
    obtain ⟨v, σ', H', J, rv, q⟩ := hs
    exact fin J rv q
  | next =>
    obtain ⟨σ', H', J, q⟩ := hs
    exact fin (v := V.non) (u := OW) J rfl q
  | brk =>
    obtain ⟨_, _, _, q⟩ := hs
    exact Pz q
  | cont =>
    obtain ⟨_, _, _, q⟩ := hs
    exact Pz q
section
variable{X:Cx}{x:Str}{p pos:Pos}{e:Ou}{es:List Ou}{t:TA}{id T:String}{r:List V->Hp->VK->Prop}
noncomputable def Aj(r:List V->Hp->VK->Prop)(t:TA):TE:=fun σ H Q=>t σ H λvs H1=>r vs H1 Q
theorem ie(hc:aP X (.builtin id) r)(hg:Gl X x)(hm:X.mg x=NI)(hv:OX x=NG (.builtin id))(ha:PA X (e::es) t)(hn:x≠ "__name__" :=by decide)(hdb:(x == ("__debug__"))=false:=by decide)
  (he:Oy (e::es) X.env=(false,Py e X.env)::Oy es X.env:=by rfl) (hpl:(Ro pos (Oy es X.env)).any (·.1)=false:=by rfl):PE X (.Call (.Name x p) (e::es) [] pos) (Aj r t):=by
 intro pins s σ H Q I h;refine Rr (kb I hg hm hv ?_ hn hdb);exact Vj (BX (ha pos pins s σ H _ I h) λus s1 vs H1 I1 r1 q1=>hc pins s1 σ H1 vs us Q I1 r1 q1) he hpl
theorem tO(hc:aP X (.type T) r)(hg:Gl X x)(hm:X.mg x=NI)(hv:OX x=NG (.type T))(ha:PA X (e::es) t)(hn:x≠ "__name__" :=by decide)(hdb:(x == ("__debug__"))=false:=by decide)
  (he:Oy (e::es) X.env=(false,Py e X.env)::Oy es X.env:=by rfl) (hpl:(Ro pos (Oy es X.env)).any (·.1)=false:=by rfl):PE X (.Call (.Name x p) (e::es) [] pos) (Aj r t):=by
 intro pins s σ H Q I h;refine Rr (kb I hg hm hv ?_ hn hdb);exact QL (BX (ha pos pins s σ H _ I h) λus s1 vs H1 I1 r1 q1=>hc pins s1 σ H1 vs us Q I1 r1 q1) he hpl
end
end L2
namespace HT
open PySem PyProof.Rows
section
variable{prog:Om}{w:OC}{A:OI}{E:NJ->NO->Prop}{s:NO}
theorem Bc{t b:NQ}{vs ws:List NJ}{Q:NJ->NO->Prop}(ht:WR s.heap t vs.toArray)(hb:WR s.heap b ws.toArray)(hv:vs≠[])
  (h1:ws=[]->Q (.ref t) s) (h2:ws≠[]->Q (.ref s.heap.objs.size) { s with heap:=s.heap.push { cls:= .type "tuple",data:= .seq (vs++ws).toArray}})
  (hsz:vs.length+ws.length<=NZ):Ob (Of prog w) A (O3 .Add (.ref t) (.ref b)) Q E s:=by
 obtain⟨⟨cls,dd,data,sl⟩,ho,hc,n,hd⟩:=id ht;obtain⟨⟨cls2,dd2,data2,sl2⟩,ho2,hc2,n2,hd2⟩:=id hb;simp only at hc hd hc2 hd2;subst hc hd hc2 hd2;have e:vs.toArray++ws.toArray=(vs++ws).toArray:=by simp
 by_cases hw:ws=[]
 . exact U1 ⟨_,ho,rfl⟩ ⟨_,ho2,rfl⟩ S3 Uz RG Rw (Ra _ _)
    (tuple_addW1 t b vs.toArray ws.toArray n n2 dd dd2 sl sl2 (by simpa using hv) (by simp[hw])) ⟨ho,ho2,h1 hw⟩
 . refine U1 ⟨_,ho,rfl⟩ ⟨_,ho2,rfl⟩ S3 Uz RG Rw (Ra _ _)
    (tuple_addW2 t b vs.toArray ws.toArray n n2 dd dd2 sl sl2 (by simpa using hv) (by simpa using hw) (by exact hsz)) ⟨ho,ho2,?_⟩
   rw[e];exact h2 hw
noncomputable def cG(n d:Nat):Option Int->Nat
 | none=>d
 | some v=>if v < 0 then(v+(n)).toNat else min v.toNat n
theorem hR n d:cG n d NI=d:=rfl
theorem jA(n d k:Nat):cG n d (NG (k))=min k n:=by
 rfl
theorem Ld n d (hd:d<=n) o:cG n d o<=n:=by
 cases o with
 | none=>exact hd
 | some v =>
  show(if v < 0 then(v+(n)).toNat else min v.toNat n)<=n
  by_cases hv:v < 0
  . grind
  . rw[if_neg hv];exact S4 _ _
theorem q9 v (n d:Nat):(if v < 0 then max (v+(n:Int)) 0 else min v (n))=((cG n d (NG v))):=by
 show(if v < 0 then max (v+(n)) 0 else min v (n))=(((if v < 0 then(v+(n)).toNat else min v.toNat n)))
 by_cases hv:v < 0
 . simp_all
 . grind
theorem p5 lo hi (n:Nat):Q6 lo hi 1 (n)=(((cG n 0 lo):Int),((cG n n hi):Int)):=by
 have h1: ¬ ((1) < 0):=by omega
 unfold Q6;refine Prod.ext ?_ ?_
 . cases lo with
   | none=>rfl
   | some v=>exact q9 v n 0
 . cases hi with
   | none=>rfl
   | some v=>exact q9 v n n
theorem qH(i j:Nat):Qa (i) (j) 1=j - i:=by
 unfold Qa;have h1:(1:Int) > 0:=by omega
 simp only[h1,if_true,Int.ediv_one];split<;>omega
theorem jI{v:NJ}{o:Option Int}{Q:Option Int->NO->Prop}(p:Th v o)(h:Q o s):Ob (Of prog w) A (VD v) Q E s:=by
 cases p with
 | none=>exact slicePart_none h
 | int i t=>exact slicePart_int h
theorem d4{sl:NQ}{vl vu:NJ}{lo hi:Option Int}{n:Nat}{Q:Int × Int × Nat->NO->Prop}(hs:s.heap.IsSliceOf sl vl vu .none)(pl:Th vl lo)(pu:Th vu hi)
  (h:Q (((cG n 0 lo:Nat):Int),1,cG n n hi - cG n 0 lo) s):Ob (Of prog w) A (VT (.ref sl) (pure (n:Int))) Q E s:=by
 obtain⟨os,hos,hcs,hds⟩:=id hs;refine NL (NL (Qr hos hds (x:=vl) rfl (NL (Qr hos hds (x:=vu) rfl (NL (Qr hos hds (x:= .none) rfl (N2 ?_)))))));refine NL (slicePart_none ?_);refine NL (jI pl (NL (jI pu (NL (N2 ?_)))));show Ob _ _ (match Q6 lo hi 1 (n) with | (lo,hi)=>pure (lo,(1:Int),Qa lo hi 1)) _ _ s;rw[p5 lo hi n];show Ob _ _ (pure (((cG n 0 lo):Int),(1),Qa ((cG n 0 lo)) ((cG n n hi)) 1)) _ _ s;rw[qH];exact N2 h
theorem xQ(xs:Array NJ)(i k:Nat):((Oa k).filterMap λ(m:Nat)=>xs[((i:Int)+(m)*1).toNat]?).toArray=((xs.toList.drop i).take k).toArray:=by
 have e:(λ(m:Nat)=>xs[((i)+(m:Int)*1).toNat]?)=λm=>xs[i+m]?:=by
  funext m
  have:((i)+(m:Int)*1).toNat=i+m:=by omega
  rw[this]
 rw[e];have:=pick_run xs i k;rw[List.filterMap_map] at this;have e2:((λx=>xs[x]?) ∘ λx=>i+x)=λm=>xs[i+m]?:=rfl;rw[e2] at this;rw [this]
theorem ia{t sl : NQ}{items : Array NJ}{vl vu : NJ}{lo hi : Option Int}{Q : NJ -> NO -> Prop}(ht : WR s.heap t items)(hs : s.heap.IsSliceOf sl vl vu .none)(pl : Th vl lo)(pu : Th vu hi)
    (hw : ¬ (cG items.size 0 lo = 0 /\ cG items.size items.size hi = items.size))
    (h : Q (.ref s.heap.objs.size) { s with heap := s.heap.push { cls := .type "tuple", data := .seq ((items.toList.drop (cG items.size 0 lo)).take (cG items.size items.size hi - cG items.size 0 lo)).toArray}})
    (hsz : items.size <= NZ) : Ob (Of prog w) A (Ti (.ref t) (.ref sl)) Q E s := by
  have htake : sizeOk (.seq ((items.toList.drop (cG items.size 0 lo)).take (cG items.size items.size hi - cG items.size 0 lo)).toArray) := by
    show ((items.toList.drop (cG items.size 0 lo)).take (cG items.size items.size hi - cG items.size 0 lo)).toArray.size <= NZ;rw [Oi, OJ, O9, Se];omega
  obtain ⟨os, hos, hcs, hds⟩ := id hs;have hTs : s.TypeIs (.ref sl) "slice" := ⟨os, hos, hcs⟩
  unfold Ti
  try with_reducible refine Pm ?_
  refine NL (U2 ht.typeIs (by decide) ?_);refine NL (S5 (name := NP "__getitem__") ht.typeIs OM
    (Vk OM ht.typeIs Up ?_ (UJ _ _)))
  show Ob _ _ (Sv (.ref t) >>= _) _ _ s;refine NL (tupleItemsOf_ ht ?_);refine NL (U3 hTs ?_);refine NL (d4 hs pl pu ?_);have hno : ¬ ((((cG items.size 0 lo) : Int) == 0 && (1 : Int) == 1 && (cG items.size items.size hi - cG items.size 0 lo) == items.size) = true) := by
    simp_all
  show Ob _ _ (if (((cG items.size 0 lo) : Int) == 0 && (1) == 1 && (cG items.size items.size hi - cG items.size 0 lo) == items.size) = true then _ else _) _ _ s;rw [if_neg hno, xQ]
  first
    | exact NL (m := Pf _) (Pp (N2 ⟨_, rfl, N2 h⟩) htake)
    | exact NL (m := Pf _) (Pp (NL (N2 (N2 ⟨_, rfl, N2 h⟩))) htake)
    | exact NL (NL (m := Pf _) (Pp (N2 (N2 ⟨_, rfl, N2 h⟩)) htake))
    | exact NL (NL (m := Pf _) (Pp (N2 ⟨_, rfl, N2 h⟩) htake))
end
end HT
namespace L2
open PySem PySem.Spec PyProof.Rows
abbrev TO:=St->Hp->(Option Int->Hp->Prop)->Prop
def PO X (e:Option Ou) (t:TO) :=
 ∀ pins s(σ :St) H Q,Inv X pins σ H s->t σ H Q ->
  Ob (Of X.prog X.w) X.A (evalPart e X.env) (λu s'=> ∃ o H',Inv X pins σ H' s'/\Th u o/\Q o H') X.xe s
noncomputable def rh:TO:=λ_ H Q=>Q NI H
noncomputable def Cn(t:TE):TO:=fun σ H Q=>t σ H λx H1=> ∃ i,x= .int i/\Q (NG i) H1
section
variable{X:Cx}{e:Ou}{te:TE}{lo hi:Option Ou}{tl th:TO}{pos p2:Pos}
theorem z7:PO X NI rh:=by
 intro pins s σ H Q I h;exact N2 ⟨NI,H,I,.none,h⟩
theorem yY(h:PE X e te):PO X (NG e) (Cn te):=by
 intro pins s σ H Q I hw;refine jm (h pins s σ H _ I hw) λu s1 x H1 I1 r1 q1=>?_;obtain⟨i,rfl,q⟩:=q1;obtain⟨t,rfl⟩:=r1;exact⟨NG i,H1,I1,.int i t,q⟩
def yp X (r:V->Option Int->Option Int->Hp->VK->Prop) :=
 ∀ pins s(σ :St) H x v vl vu lo hi sl Q,Inv X pins σ H s->RelV x v->s.heap.IsSliceOf sl vl vu .none->Th vl lo->Th vu hi->r x lo hi H Q ->
  ∃ T id,typeLookup (.type T) "__getitem__" =pure (NG (.builtin id))/\s.TypeIs v T/\Ob (Of X.prog X.w) X.A (Ti v (.ref sl)) (EP X pins σ Q) X.xe s
theorem yp.or(h:yp X r)(h':yp X r'):yp X (λx lo hi H Q=>r x lo hi H Q\/r' x lo hi H Q):=by
 intro pins s σ H x v vl vu lo hi sl Q I rx hs pl pu q;rcases q with q | q
 . exact h pins s σ H x v vl vu lo hi sl Q I rx hs pl pu q
 . exact h' pins s σ H x v vl vu lo hi sl Q I rx hs pl pu q
noncomputable def MB(r:V->Option Int->Option Int->Hp->VK->Prop)(te:TE)(tl th:TO):TE:=fun σ H Q=>te σ H λx H1=>tl σ H1 λl H2=>th σ H2 λu H3=>r x l u H3 Q
theorem vv(hr:yp X r)(he:PE X e te)(hl:PO X lo tl)(hu:PO X hi th):PE X (.Subscript e (.Slice lo hi NI p2) pos) (MB r te tl th):=by
 intro pins s σ H Q I h;refine Subscript_ (jm (he pins s σ H _ I h) λv s1 x H1 I1 r1 q1=>?_);refine wpAny_Slice (fB (hl pins s1 σ H1 _ I1 q1) λvl s2 ⟨l,H2,I2,pl,q2⟩=>fB (hu pins s2 σ H2 _ I2 q2) λvu s3 z9=>?_);obtain⟨u,H3,I3,pu,q3⟩:=z9;refine N2 ?_;have I4:Inv X pins σ H3 { s3 with heap:=s3.heap.push { cls:= .type "slice",data:= .fields #[vl,vu,.none]}}:=I3.kept (t':=s3.toks) λb ob q=>NT _ q;obtain⟨T,id,hT,ht,hg⟩:=hr pins { s3 with heap:=s3.heap.push { cls:= .type "slice",data:= .fields #[vl,vu,.none]}} σ H3 x v vl vu l u s3.heap.objs.size Q I4 r1 (WY ..) pl pu q3;exact tail_any (ops:=[.ref s3.heap.objs.size,v]) ht hT hg (by rfl)
def jt(xs:List V)(lo hi:Option Int):=(xs.drop (HT.cG xs.length 0 lo)).take (HT.cG xs.length xs.length hi - HT.cG xs.length 0 lo)
theorem jg xs lo hi:(jt xs lo hi).length<=xs.length:=by
 unfold jt;rw[OJ,O9];omega
def Ke(K:NH):V->Option Int->Option Int->Hp->VK->Prop:=λx lo hi H Q=> ∃ a xs,x= .ref a/\fk K H a xs /\
 ¬ (HT.cG xs.length 0 lo=0/\HT.cG xs.length xs.length hi=xs.length)/\ ∀ p,H p=NI->Q (.ref p) (upd H p (.tup (jt xs lo hi)))
theorem E4:yp X (Ke X.K):=by
 intro pins s σ H x v vl vu lo hi sl Q I rx hs pl pu h;obtain⟨a,xs,rfl,hx,hw,q⟩:=h;cases rx;obtain⟨ak,r,ht,hz⟩:=I.tuple hx;have hlen:ak.toArray.size=xs.length:=by exact r.length.symm
 refine⟨"tuple",_,OM.lookup,ht.typeIs,?_⟩;refine HT.ia ht hs pl pu (by rw[hlen];exact hw) ?_ (by rw[hlen];exact hz);rw[hlen];refine⟨.ref s.heap.objs.size,_,I.laid (t':=s.toks) (o:= .tup (jt xs lo hi)) (λb ob q=>NT _ q) (NS _) ?_,rfl,q _ (I.aW.fresh (NS _))⟩;exact⟨N5 (jg xs lo hi) hz,_,(r.drop (HT.cG xs.length 0 lo)).take (HT.cG xs.length xs.length hi - HT.cG xs.length 0 lo),kP.new _ _⟩
def B1(K:NH):R2:=λx y H Q=> ∃ a b xs ys,x= .ref a/\y= .ref b/\fk K H a xs/\fk K H b ys/\xs≠[]/\xs.length+ys.length<=NZ /\
 (ys=[]->Q (.ref a) H)/\(ys≠[]-> ∀ p,H p=NI->Q (.ref p) (upd H p (.tup (xs++ys))))
theorem Vals.jv(r:Vals xs us):us=[]↔xs=[]:=by
 cases r with
 | nil=>simp
 | cons _ _=>simp
theorem yx:bT X (O3 .Add) (B1 X.K):=by
 intro pins s σ H x y v u Q I rx ry h;obtain⟨a,b,xs,ys,rfl,rfl,ha,hb,hx,hz,q1,q2⟩:=h;cases rx;cases ry;obtain⟨ak,r1,p1,_⟩:=I.tuple ha;obtain⟨its2,r2,p2,_⟩:=I.tuple hb;refine HT.Bc p1 p2 (λz=>hx (r1.jv.mp z)) (λz=>⟨.ref a,H,I,rfl,q1 (r2.jv.mp z)⟩) (λz=>?_) (by rw[<- r1.length,<- r2.length];exact hz);refine⟨.ref s.heap.objs.size,_,I.laid (t':=s.toks) (o:= .tup (xs++ys)) (λb ob q=>NT _ q) (NS _) ?_,rfl,q2 (λw=>z (r2.jv.mpr w)) _ (I.aW.fresh (NS _))⟩;exact⟨by rw[NX];exact hz,_,r1.append r2,kP.new _ _⟩
end
noncomputable def nO(n:Nat)(i:Int):=if 0<=i then(if i < n then NG i.toNat else NI) else if -(n)<=i then NG (i+n).toNat else NI
def fE{α :Type}(xs:List α) i:=(nO xs.length i).bind λj=>xs[j]?
theorem sd(h:nO n i=NG j):seqIndex? i n=NG j/\j < n/\ -(n)<=i/\i < n:=by
 unfold nO at h;by_cases h0:0<=i
 . rw[if_pos h0] at h;by_cases h1:i < n
   . rw[if_pos h1] at h;have e:=OF h;exact⟨by rw[Vx h0 h1,e],by omega,by omega,h1⟩
   . simp_all
 . rw[if_neg h0] at h;by_cases h1: -(n)<=i
   . rw[if_pos h1] at h;have e:=OF h;exact⟨by rw[U4 (by omega) h1,e],by omega,h1,by omega⟩
   . simp_all
theorem nq(h:fE xs i=NG v): ∃ j,seqIndex? i xs.length=NG j/\xs[j]?=NG v/\j < xs.length/\ -(xs.length)<=i/\i < xs.length:=by
 unfold fE at h;cases e:nO xs.length i with
 | none=>simp_all
 | some j =>
  rw[e] at h
  obtain⟨h1,h2,h3,h4⟩:=sd e
  exact⟨j,h1,h,h2,h3,h4⟩
theorem cO{j:Nat}(h:xs[j]?=NG v):fE xs (j)=NG v:=by
 have hj:=(NN.mp h).1;have e:nO xs.length (j)=NG j:=by
  unfold nO;rw[if_pos (by omega),if_pos (by omega)];simp
 unfold fE;rw[e];exact h
def m5 b:= ∀ o i,Vy b false o i=operate [o,i] (Ti o i)
def uo X (r:R2) :=
 ∀ value slice pins s(σ :St) H x y v u Q,Inv X pins σ H s->RelV x v->RelV y u->r x y H Q ->
  Vy slice false v u=operate [v,u] (Ti v u)->Ob (Of X.prog X.w) X.A (subscriptTail value slice v u) (EP X pins σ Q) X.xe s
def yq X (id:String) (r:V->List V->Hp->VK->Prop) :=
 ∀ pins s(σ :St) H x xs v us Q,Inv X pins σ H s->RelV x v->Vals xs us->r x xs H Q ->
  Ob (Of X.prog X.w) X.A (call (.builtin id) (v::us)) (EP X pins σ Q) X.xe s
section
variable{X:Cx}{a b:Ou}{ta tb:TE}{pos:Pos}
theorem uo.or(h:uo X r)(h':uo X r'):uo X (λx y H Q=>r x y H Q\/r' x y H Q):=by
 intro value slice pins s σ H x y v u Q I rx ry q hs;rcases q with q | q
 . exact h value slice pins s σ H x y v u Q I rx ry q hs
 . exact h' value slice pins s σ H x y v u Q I rx ry q hs
theorem Jj(hr:uo X r)(ha:PE X a ta)(hb:PE X b tb)(hs:m5 b):PE X (.Subscript a b pos) (zB r ta tb):=by
 intro pins s σ H Q I h;exact Subscript_ (CH ha hb I h λv u s2 x y H2 I2 rx ry q=>hr a b pins s2 σ H2 x y v u Q I2 rx ry q (hs _ _))
def IU(K:NH):R2:=λx y H Q=> ∃ p xs i v,x= .ref p/\y= .int i/\d9 K H p xs/\fE xs i=NG v/\Q v H
def Im(K:NH):R2:=λx y H Q=> ∃ p xs i v,x= .ref p/\y= .int i/\fk K H p xs/\fE xs i=NG v/\Q v H
def JZ:R2:=λx y H Q=> ∃ z i c,x= .str z/\y= .int i/\z.length<=NZ/\fE z.cps.toList i=NG c/\Q (.str ⟨#[c]⟩) H
theorem Ao:uo X (IU X.K):=by
 intro value slice pins s σ H x y v u Q I rx ry h hs;obtain⟨p,xs,i,z,rfl,rfl,hq,he,q⟩:=h;cases rx;obtain⟨t,rfl⟩:=ry;obtain⟨ak,r,pl,hz⟩:=I.list hq;obtain⟨j,h1,h2,h3,h4,h5⟩:=nq he;obtain⟨w,ew,rw'⟩:=r.get h2;have hl:=r.length;have hn:=iJ;have fin:EP X pins σ Q w s:=⟨z,H,I,rw',q⟩
 by_cases h0:0<=i
 . have hj:i.toNat=j:=by
    rw[Vx h0 h5] at h1;exact OF h1
   exact item_listR pl.isList h0 (by omega) (by rw[hj];simpa using ew) fin hs
 . have hj:(i+(ak.toArray.size)).toNat=j:=by
    rw[U4 (by omega) h4] at h1;rw[Oi,<- hl];exact OF h1
   exact Tj (x:=w) pl.isList.typeIs U5.lookup
    (wpAny_getItem_list_neg (Q:=λr s'=>r=w/\EP X pins σ Q r s') pl.isList (by omega) (by simp_all) (by omega) (by rw[hj];simpa using ew) ⟨rfl,fin⟩) hs
theorem GR:uo X (Im X.K):=by
 intro value slice pins s σ H x y v u Q I rx ry h hs;obtain⟨p,xs,i,z,rfl,rfl,hq,he,q⟩:=h;cases rx;obtain⟨t,rfl⟩:=ry;obtain⟨ak,r,pl,hz⟩:=I.tuple hq;obtain⟨j,h1,h2,h3,h4,h5⟩:=nq he;obtain⟨w,ew,rw'⟩:=r.get h2;have hl:=r.length;have hn:=iJ;have fin:EP X pins σ Q w s:=⟨z,H,I,rw',q⟩
 exact Tj (x:=w) pl.typeIs OM.lookup
  (getItem_tuple (j:=j) (Q:=λr s'=>r=w/\EP X pins σ Q r s') pl (by omega) (by omega) (by rw[Oi,<- hl];exact h1) (by simpa using ew) ⟨rfl,fin⟩) hs
theorem F9:uo X JZ:=by
 intro value slice pins s σ H x y v u Q I rx ry h hs;obtain⟨z,i,c,rfl,rfl,hz,he,q⟩:=h;obtain⟨t,rfl⟩:=rx;obtain⟨t',rfl⟩:=ry;obtain⟨j,h1,h2,h3,h4,h5⟩:=nq he;have hl:z.cps.toList.length=z.length:=by rfl
 rw[hl] at h1 h4 h5;have hn:=iJ;exact tail_any (RU s z t) slot_str_getitem.lookup (getItem_str (c:=c) (by
  grind) (by rw[h1];simpa using h2) ⟨.str ⟨#[c]⟩,H,I.tok _,⟨_,rfl⟩,q⟩) hs
def Nj(K:NH):R2:=λx y H Q=>IU K x y H Q\/Im K x y H Q\/JZ x y H Q
theorem Ez:uo X (Nj X.K):=Ao.or (GR.or F9)
theorem qI(ak:List NJ) n j u:UK (·.setIfInBounds j u) { cls:= .type "list",data:= .seq ak.toArray n}={ cls:= .type "list",data:= .seq (ak.set j u).toArray n}:=by
 simp[UK]
theorem Inv.lst{pins}{σ :St}{H s p xs}(I:Inv X pins σ H s)(h:H p=NG (.lst xs)) :
  ∃(ak:List NJ)(n:Nat),Vals xs ak/\s.heap.get? p=NG { cls:= .type "list",data:= .seq ak.toArray n}/\xs.length<=NZ:=by
 obtain⟨z,ak,n,r,e⟩:=I.aW p _ h;exact⟨ak,n,r,e,z⟩
theorem Inv.DD{pins:List (NQ × Obj)}{σ :St}{H:Hp}{s:NO}{p:NQ}{xs ys:List V}{ak its':List NJ}{n n':Nat}{f:Obj->Obj}(I:Inv X pins σ H s)(h:H p=NG (.lst xs))
  (ho:s.heap.get? p=NG { cls:= .type "list",data:= .seq ak.toArray n}) (hf:f { cls:= .type "list",data:= .seq ak.toArray n}={ cls:= .type "list",data:= .seq its'.toArray n'}) (r:Vals ys its') (hz:ys.length<=NZ) (t:Nat) :
  Inv X pins σ (upd H p (.lst ys)) { s with heap:=s.heap.update p f,toks:=t}:=by
 have e:(s.heap.update p f).get? p=NG { cls:= .type "list",data:= .seq its'.toArray n'}:=by
  rw[P9 f ho (by rw[hf]<;>rfl),hf]
 refine I.write (x:=p) (e:=p) (by rw[h];trivial) (.inl rfl) (λb u hb q=>(OY _ _ (PX hb)).trans q) ⟨_,e⟩ ?_;exact⟨hz,its',n',r,e⟩
def JK:V->V->V->Hp->(Hp->Prop)->Prop:=λo i v H Q=> ∃ p xs k j,o= .ref p/\i= .int k/\H p=NG (.lst xs)/\nO xs.length k=NG j/\Q (upd H p (.lst (xs.set j v)))
theorem set_list:ku X JK:=by
 intro pins s σ H o i v ov iv u Q I ro ri rv h;obtain⟨p,xs,k,j,rfl,rfl,hp,hj,q⟩:=h;cases ro;obtain⟨t,rfl⟩:=ri;obtain⟨ak,n,r,ho,hz⟩:=I.lst hp;obtain⟨h1,h2,h3,h4⟩:=sd hj;have hl:=r.length;have hn:=iJ;have I' :=
  I.DD hp ho (qI ak n j u) (r.set rv j) (by rw[VE];exact hz) s.toks
 by_cases h0:0<=k
 . have hk:k.toNat=j:=by
    rw[Vx h0 h4] at h1;exact OF h1
   exact PySem.W.ki_setAt ho h0 (by omega) (by rw[Oi,<- hl];exact h4) (by rw[hk];exact⟨_,I',q⟩)
 . have hk:(k+(ak.toArray.size)).toNat=j:=by
    rw[U4 (by omega) h3] at h1;rw[Oi,<- hl];exact OF h1
   exact PySem.W.ki_setBack ho (by omega) (by simp_all) (by omega) (by rw[hk];exact⟨_,I',q⟩)
theorem mX lo hi n:(SK lo hi NI n).1=((HT.cG n 0 lo))/\(SK lo hi NI n).2.1=((HT.cG n n hi))/\(SK lo hi NI n).2.2=1:=by
 refine⟨?_,?_,rfl⟩
 . cases lo with
   | none=>rfl
   | some i =>
    simp only[SK,HT.cG,Vl,show(1:Int) > 0 by decide,if_true]
    by_cases h:i < 0
    . simp only[h,if_true]<;>omega
    . simp only[h,if_false]<;>omega
 . cases hi with
   | none=>rfl
   | some i =>
    simp only[SK,HT.cG,Vl,show(1:Int) > 0 by decide,if_true]
    by_cases h:i < 0
    . simp only[h,if_true]<;>omega
    . simp only[h,if_false]<;>omega
theorem kL(ak:List NJ) lo hi:slicePick ak.toArray lo hi NI=((ak.drop (HT.cG ak.length 0 lo)).take (HT.cG ak.length ak.length hi - HT.cG ak.length 0 lo)).toArray:=by
 obtain⟨h1,h2,h3⟩:=mX lo hi ak.toArray.size;unfold slicePick;rw[h1,h2,h3];simp only[sliceRange_one,pick_run]<;>rfl
def HL(K:NH):V->Option Int->Option Int->Hp->VK->Prop:=λx lo hi H Q=> ∃ a xs,x= .ref a/\d9 K H a xs/\ ∀ p,H p=NI->Q (.ref p) (upd H p (.lst (jt xs lo hi)))
theorem BS:yp X (HL X.K):=by
 intro pins s σ H x v vl vu lo hi sl Q I rx hs pl pu h;obtain⟨a,xs,rfl,hx,q⟩:=h;cases rx;obtain⟨ak,r,ht,hz⟩:=I.list hx;have hlen:=r.length;refine⟨"list",_,U5.lookup,ht.isList.typeIs,?_⟩;refine wpAny_getItem_list_slice ht.isList hs pl pu .none (by simp) ?_ (by simp_all);rw[kL,<- hlen];refine⟨.ref s.heap.objs.size,_,I.laid (t':=s.toks) (o:= .lst (jt xs lo hi)) (λb ob q=>NT _ q) (NS _) ?_,rfl,q _ (I.aW.fresh (NS _))⟩;exact⟨N5 (jg xs lo hi) hz,_,0,(r.drop (HT.cG xs.length 0 lo)).take (HT.cG xs.length xs.length hi - HT.cG xs.length 0 lo),Oh _ rfl⟩
noncomputable def eL:V->Bool
 | .non=>true
 | .bl _=>true
 | .int _=>true
 | .str _=>true
 | _=>false
noncomputable def zy:V->V->Bool
 | .non,.non=>true
 | .bl a,.bl b=>a == b
 | .bl a,.int b=>(if a then 1 else 0) == b
 | .int a,.bl b=>a == (if b then 1 else 0)
 | .int a,.int b=>a == b
 | .str a,.str b=>a == b
 | _,_=>false
theorem DF(ry:RelV y u)(rx:RelV x v)(fy:eL y=true)(fx:eL x=true):WZ A s u v (zy y x):=by
 cases y with
 | non =>
  cases ry
  cases x with
  | non=>cases rx;exact SeqAt.EqAt.same _
  | bl b=>cases rx;exact SeqAt.EqAt.none_bool b
  | int b=>obtain⟨t,rfl⟩:=rx;exact SeqAt.EqAt.none_int b t
  | str b=>obtain⟨t,rfl⟩:=rx;exact SeqAt.EqAt.none_str b t
  | _=>exact absurd (show false=true from fx) N6
 | bl a =>
  cases ry
  cases x with
  | non=>cases rx;exact SeqAt.EqAt.bool_none a
  | bl b=>cases rx;exact SeqAt.EqAt.bool_bool a b
  | int b=>obtain⟨t,rfl⟩:=rx;exact SeqAt.EqAt.bool_int a b t
  | str b=>obtain⟨t,rfl⟩:=rx;exact SeqAt.EqAt.bool_str a b t
  | _=>exact absurd (show false=true from fx) N6
 | int a =>
  obtain⟨t',rfl⟩:=ry
  cases x with
  | non=>cases rx;exact SeqAt.EqAt.int_none a t'
  | bl b=>cases rx;exact SeqAt.EqAt.int_bool a t' b
  | int b=>obtain⟨t,rfl⟩:=rx;exact SeqAt.EqAt.int_int a t' b t
  | str b=>obtain⟨t,rfl⟩:=rx;exact UC a t' b t
  | _=>exact absurd (show false=true from fx) N6
 | str a =>
  obtain⟨t',rfl⟩:=ry
  cases x with
  | non=>cases rx;exact SeqAt.EqAt.str_none a t'
  | bl b=>cases rx;exact SeqAt.EqAt.str_bool a t' b
  | int b=>obtain⟨t,rfl⟩:=rx;exact UD a t' b t
  | str b=>obtain⟨t,rfl⟩:=rx;exact SeqAt.EqAt.str_str a t' b t
  | _=>exact absurd (show false=true from fx) N6
 | _=>exact absurd (show false=true from fy) N6
def qp x (u:NJ):=match u with
 | .none=>zy .non x
 | .bool b=>zy (.bl b) x
 | .int i _=>zy (.int i) x
 | .str z _=>zy (.str z) x
 | _=>false
theorem vk(r:RelV y u)(f:eL y=true):qp x u=zy y x:=by
 cases y with
 | non=>cases r;rfl
 | bl b=>cases r;rfl
 | int i=>obtain⟨t,rfl⟩:=r;rfl
 | str z=>obtain⟨t,rfl⟩:=r;rfl
 | _=>exact absurd (show false=true from f) N6
theorem hJ: ∀{xs us},Vals xs us->xs.all eL=true->us.any (qp x)=xs.any λy=>zy y x
 | _,_,.nil,_=>rfl
 | y::xs,u::us,.cons r t,f=>by
  rw[QD,N7] at f;rw[Qf,Qf,vk r f.1,hJ t f.2]
theorem fH(rx:RelV x v)(fx:eL x=true): ∀{xs us},Vals xs us->xs.all eL=true-> ∀ u∈us,WZ A s u v (qp x u)
 | _,_,.nil,_=>λu hu=>by cases hu
 | y::xs,u::us,.cons r t,f=>λu' hu=>by
  rw[QD,N7] at f;rcases Ot.mp hu with rfl | hu
  . rw[vk r f.1];exact DF r rx f.1 fx
  . exact fH rx fx t f.2 u' hu
def Jy x (xs:List V):=xs.any λy=>zy y x
def MN(K:NH)(neg:Bool):R2:=λx y H Q=> ∃ p xs,y= .ref p/\(d9 K H p xs\/fk K H p xs)/\eL x=true/\xs.all eL=true/\Q (.bl (if neg then !Jy x xs else Jy x xs)) H
theorem uE:bT X (Ol .In) (MN X.K false):=by
 intro pins s σ H x y v u Q I rx ry h;obtain⟨p,xs,rfl,hq,fx,fs,q⟩:=h;cases ry;rcases hq with hq | hq
 . obtain⟨ak,r,pl,hz⟩:=I.list hq;refine SeqAt.in_listAt (qp x) pl.isList (λw hw=>fH rx fx r fs w (by simpa using hw)) ⟨.bl _,H,I,rfl,?_⟩;rw[show ak.toArray.any (qp x)=ak.any (qp x) by simp,hJ r fs];exact q
 . obtain⟨ak,r,pl,hz⟩:=I.tuple hq;refine SeqAt.in_tupleAt (qp x) pl (λw hw=>fH rx fx r fs w (by simpa using hw)) ⟨.bl _,H,I,rfl,?_⟩;rw[show ak.toArray.any (qp x)=ak.any (qp x) by simp,hJ r fs];exact q
theorem mO:bT X (Ol .NotIn) (MN X.K true):=by
 intro pins s σ H x y v u Q I rx ry h;obtain⟨p,xs,rfl,hq,fx,fs,q⟩:=h;cases ry;rcases hq with hq | hq
 . obtain⟨ak,r,pl,hz⟩:=I.list hq;refine SeqAt.notIn_listAt (qp x) pl.isList (λw hw=>fH rx fx r fs w (by simpa using hw)) ⟨.bl _,H,I,rfl,?_⟩;rw[show ak.toArray.any (qp x)=ak.any (qp x) by simp,hJ r fs];exact q
 . obtain⟨ak,r,pl,hz⟩:=I.tuple hq;refine SeqAt.notIn_tupleAt (qp x) pl (λw hw=>fH rx fx r fs w (by simpa using hw)) ⟨.bl _,H,I,rfl,?_⟩;rw[show ak.toArray.any (qp x)=ak.any (qp x) by simp,hJ r fs];exact q
theorem nK:bT X (Ol .NotIn) (λx y H Q=> ∃ i j,x= .str i/\y= .str j/\Q (.bl (!(!(OR j i 0 j.length 1).isEmpty))) H):=by
 intro pins s σ H x y v u Q I rx ry h;obtain⟨i,j,rfl,rfl,q⟩:=h;obtain⟨t,rfl⟩:=rx;obtain⟨t',rfl⟩:=ry;exact notIn_str ⟨.bl _,H,I,rfl,q⟩
theorem nh:aP X (.builtin "len") (λxs H Q=> ∃ p ys,xs=[.ref p]/\(d9 X.K H p ys\/fk X.K H p ys)/\Q (.int ys.length) H):=by
 intro pins s σ H xs us Q I r h;obtain⟨p,ys,rfl,hq,q⟩:=h;obtain⟨u,rfl,rx⟩:=vals1 r;cases rx;have hn:=iJ;rcases hq with hq | hq
 . obtain⟨ak,r',pl,hz⟩:=I.list hq;have hlen:=r'.length;exact Calls.call_len_list pl.isList (by simp only[Oi]<;>omega) ⟨.int ys.length,H,I.tok _,⟨s.toks+1,by rw[Oi,hlen]⟩,q⟩
 . obtain⟨ak,r',pl,hz⟩:=I.tuple hq;have hlen:=r'.length;exact len_tuple pl (by simp only[Oi]<;>omega) ⟨.int ys.length,H,I.tok _,⟨s.toks+1,by rw[Oi,hlen]⟩,q⟩
theorem l7:aP X (.builtin "len") (λxs H Q=> ∃ z,xs=[.str z]/\z.length<=NZ/\Q (.int z.length) H):=by
 intro pins s σ H xs us Q I r h;obtain⟨z,rfl,hz,q⟩:=h;obtain⟨u,rfl,t,rfl⟩:=vals1 r;have hn:=iJ;exact len_str (by omega) ⟨.int z.length,H,I.tok _,⟨_,rfl⟩,q⟩
theorem aP.or(h:aP X f r)(h':aP X f r'):aP X f (λxs H Q=>r xs H Q\/r' xs H Q):=by
 intro pins s σ H xs us Q I rs q;rcases q with q | q
 . exact h pins s σ H xs us Q I rs q
 . exact h' pins s σ H xs us Q I rs q
theorem mL:aP X (.type "list") (λxs H Q=> ∃ p ys,xs=[.ref p]/\(d9 X.K H p ys\/fk X.K H p ys)/\ ∀ l,H l=NI->Q (.ref l) (upd H l (.lst ys))):=by
 intro pins s σ H xs us Q I r h;obtain⟨p,ys,rfl,hq,q⟩:=h;obtain⟨u,rfl,rx⟩:=vals1 r;cases rx;have fin: ∀(ak:List NJ),Vals ys ak->ys.length<=NZ-> ∀(h':OQ)(c':Nat),(∀ b o',s.heap.get? b=NG o'->h'.get? b=NG o') ->
   h'.get? s.heap.objs.size=NG { cls:= .type "list",dict:=NI,data:= .seq ak.toArray c',slots:= #[]}->EP X pins σ Q (.ref s.heap.objs.size) { s with heap:=h'}:=λak r' hz h' c' kp e =>
  ⟨.ref s.heap.objs.size,_,I.laid (t':=s.toks) kp (NS _) (show cj X.prog X.w _ h' _ (.lst ys) from⟨hz,ak,c',r',e⟩),rfl,q _ (I.aW.fresh (NS _))⟩
 rcases hq with hq | hq
 . obtain⟨ak,r',pl,hz⟩:=I.list hq;have hlen:=r'.length;obtain⟨o,ho,hc,n,hd⟩:=pl.isList;exact call_list_seq p (.inl rfl) ho hc hd (λh' c' kp e=>fin ak r' hz h' c' kp e) (by simp only[Oi]<;>omega)
 . obtain⟨ak,r',pl,hz⟩:=I.tuple hq;have hlen:=r'.length;obtain⟨o,ho,hc,n,hd⟩:=pl;exact call_list_seq p (.inr rfl) ho hc hd (λh' c' kp e=>fin ak r' hz h' c' kp e) (by simp only[Oi]<;>omega)
theorem kC:aP X (.type "tuple") (λxs H Q=> ∃ p ys,xs=[.ref p]/\((d9 X.K H p ys/\ ∀ l,H l=NI->Q (.ref l) (upd H l (.tup ys)))\/(fk X.K H p ys/\Q (.ref p) H))):=by
 intro pins s σ H xs us Q I r h;obtain⟨p,ys,rfl,h⟩:=h;obtain⟨u,rfl,rx⟩:=vals1 r;cases rx;rcases h with⟨hq,q⟩ | ⟨hq,q⟩
 . obtain⟨ak,r',pl,hz⟩:=I.list hq;have hlen:=r'.length;refine call_tuple_list pl.isList (λh' kp=>?_) (by simp_all);have I1:=I.kept (t':=s.toks) kp;have I2 :=
    I1.laid (t':=s.toks) (λb o e=>NT _ e) (NS _) (show cj X.prog X.w _ _ _ (.tup ys) from⟨hz,ak,r',kP.new _ _⟩)
   exact⟨.ref h'.objs.size,_,I2,rfl,q _ (I1.aW.fresh (NS _))⟩
 . obtain⟨ak,r',pl,hz⟩:=I.tuple hq;exact call_tuple_same pl ⟨.ref p,H,I,rfl,q⟩
def Hx(K:NH)(T:String)(x:V)(H:Hp):Prop:=match x with
 | .str _=>T= "str"
 | .int _=>T= "int"
 | .ref p=>(T= "list" /\ ∃ xs,d9 K H p xs)\/(T= "tuple" /\ ∃ o,K.lookup p=NG o/\o.cls= .type "tuple" /\o.dict=NI) \/
   (T= "dict" /\((∃ kvs,H p=NG (.dK kvs))\/ ∃ kvs,H p=NG (.dT kvs)))\/(T= "set" /\ ∃ S n,H p=NG (.set S n))
 | _=>False
theorem FH{σ :St}(I:Inv X pins σ H s)(r:RelV x v)(ty:Hx X.K T x H) :
  s.TypeIs v T/\ ∀ a,v= .ref a-> ∃ ob,s.heap.get? a=NG ob/\ob.dict=NI:=by
 cases x with
 | str z =>
  obtain⟨t,rfl⟩:=r
  cases(show T= "str" from ty)
  exact⟨RU s z t,λ_ e=>by cases e⟩
 | int i =>
  obtain⟨t,rfl⟩:=r
  cases(show T= "int" from ty)
  exact⟨Tn s i t,λ_ e=>by cases e⟩
 | ref p =>
  cases r
  rcases ty with⟨rfl,xs,hq⟩ | ⟨rfl,o,hk,hc,hd⟩ | ⟨rfl,hk⟩ | ⟨rfl,S,n,hk⟩
  . obtain⟨ak,_,pl,_⟩:=I.list hq;refine⟨pl.isList.typeIs,λa e=>?_⟩;cases e;obtain⟨o,n,e,c,hd,_⟩:=pl;exact⟨o,e,hd⟩
  . refine⟨⟨o,I.qA p o hk,hc⟩,λa e=>?_⟩;cases e;exact⟨o,I.qA _ o hk,hd⟩
  . have z: ∃ o,s.heap.get? p=NG o/\o.ExactDict:=by
     rcases hk with⟨kvs,hk⟩ | ⟨kvs,hk⟩
     . obtain⟨_,_,_,_,o,_,_,e,ex,_⟩:=I.aW p _ hk;exact⟨o,e,ex⟩
     . obtain⟨_,_,_,_,o,_,_,e,ex,_⟩:=I.aW p _ hk;exact⟨o,e,ex⟩
    obtain⟨o,e,ex⟩:=z;refine⟨⟨o,e,ex.1⟩,λa e2=>?_⟩;cases e2;exact⟨o,e,ex.2.1⟩
  . obtain⟨o,_,_,_,e,ex,_⟩:=I.aW p _ hk;refine⟨⟨o,e,ex.1⟩,λa e2=>?_⟩;cases e2;exact⟨o,e,ex.2.1⟩
 | _=>exact Pz ty
noncomputable def Mw(K:NH)(T:String)(r:V->List V->Hp->VK->Prop)(to:TE)(t:TA):TE:=fun σ H Q=>to σ H λx H1=>Hx K T x H1/\t σ H1 λxs H2=>r x xs H2 Q
variable{o e:Ou}{es:List Ou}{to:TE}{t:TA}{name:Str}{apos cpos:Pos}{T id:String}{r:V->List V->Hp->VK->Prop}
theorem IK(pa:VU T)(slot:Slot T name id)(hty:typeOf (.builtin id)=pure (.type "method_descriptor"))(hm:yq X id r)(ho:PE X o to)(ha:PA X (e::es) t)
  (hbase:Qe o name X.env (Py o X.env)=Py o X.env:=by rfl)
  (hfew:((Ro cpos (Oy (e::es) X.env)).all (λx=> !x.1)&&(backToKw cpos (Vz [] X.env)).all (λx=>x.1.isSome)
   && decide ((e::es).length+([]:List Ul).length+(if ([]:List Ul).isEmpty then 0 else 1) < 30))=true:=by rfl)
  (hline:(apos.endLine == cpos.line)=true:=by rfl) (hs:Oy (e::es) X.env=(false,Py e X.env)::Oy es X.env:=by rfl) (hplain:(Ro cpos (Oy es X.env)).any (·.1)=false:=by rfl) :
  PE X (.Call (.Attribute o name apos) (e::es) [] cpos) (Mw X.K T r to t):=by
 intro pins s σ H Q I h;refine wpAny_Call_method_late hbase hfew hline rfl (jm (ho pins s σ H _ I h) λv s1 x H1 I1 r1 ⟨ty,q1⟩=>?_);obtain⟨h1,h2⟩:=FH I1 r1 ty;refine⟨T,id,pa,slot,hty,h1,h2,?_⟩;have hA:=ha cpos pins s1 σ H1 _ I1 q1;rw[hs] at hA ⊢;refine Calls.callWith_builtin (by show(false||(Ro cpos (Oy es X.env)).any (·.1))=false;rw[hplain]<;>rfl) (Calls.evalArgs_plain ?_)
 exact BX hA λus s2 vs H2 I2 r2 q2=>hm pins s2 σ H2 x vs v us Q I2 r1 r2 q2
/- xs.append(e),list.index on a module's tuple .. are yq facts of 06m -/
end
def MZ X (id:String) (r:V->List V->Hp->VK->Prop) :=
 ∀ pins s(σ :St) H x xs v us Q,Inv X pins σ H s->RelV x v->Vals xs us->r x xs H Q ->
  Ob (Of X.prog X.w) X.A (call (.builtin id) (v::us)) (EP X pins σ Q) X.xe s
theorem Vals.one{x:V}{us:List NJ}(h:Vals [x] us): ∃ u,us=[u]/\RelV x u:=by
 cases h with
 | cons r t=>cases t;exact⟨_,rfl,r⟩
theorem Vals.two{x y:V}{us:List NJ}(h:Vals [x,y] us): ∃ u v,us=[u,v]/\RelV x u/\RelV y v:=by
 cases h with
 | cons r t=>cases t with
  | cons q t=>cases t;exact⟨_,_,rfl,r,q⟩
theorem Vals.zero: ∀{us},Vals [] us->us=[]
 | _,.nil=>rfl
theorem Vals.rep(h:Vals xs us): ∀ k ,Vals (NM k xs).flatten (NM k us).flatten
 | 0=> .nil
 | k+1=>by
  exact Vals.append h (Vals.rep h k)
theorem foldl_rep(ak:List NJ): ∀ k acc,
  VW (λx1 x2=>x1++x2) acc.toArray (NM k ak.toArray)=(acc++(NM k ak).flatten).toArray
 | 0,acc=>by simp
 | k+1,acc=>by
  have e:acc.toArray++ak.toArray=(acc++ak).toArray:=by simp
  have e2:(acc++ak)++(NM k ak).flatten=acc++(NM (k+1) ak).flatten:=by
   rw[Uq,List.flatten_cons,N0]
  rw[<- e2,<- foldl_rep ak k (acc++ak),<- e,Uq,Rm]
section
variable{X:Cx}{pins:List (NQ × Obj)}{σ :St}{H:Hp}{s:NO}{l b:NQ}{xs ys zs:List V}
theorem Inv.IH{ak its':List NJ}{n:Nat}{f:Array NJ->Array NJ}{t':Nat}(I:Inv X pins σ H s)(hH:H l=NG (.lst xs))
  (e:s.heap.get? l=NG { cls:= .type "list",data:= .seq ak.toArray n}) (hf:f ak.toArray=its'.toArray) (hv:Vals ys its') (hz:ys.length<=NZ) :
  Inv X pins σ (upd H l (.lst ys)) { s with heap:=s.heap.update l (UK f),toks:=t'}:=by
 have q:=PySem.IsL.update e f;rw[hf] at q;refine I.write (x:=l) (e:=l) (by rw[hH];exact trivial) (.inl rfl) (λb' u hb hu=>(OY s.heap (UK f) (PX hb)).trans hu) ⟨_,q⟩ ?_;exact⟨hz,its',_,hv,q⟩
theorem Inv.JL(I:Inv X pins σ H s)(hv:Vals ys ak)(hz:ys.length<=NZ) :
  Inv X pins σ (upd H s.heap.objs.size (.lst ys)) { s with heap:=s.heap.push { cls:= .type "list",data:= .seq ak.toArray},toks:=t'} :=
 I.laid (λ_ _ q=>NT _ q) (NS _) ⟨hz,ak,0,hv,Oh _ rfl⟩
theorem Inv.fresh(I:Inv X pins σ H s):H s.heap.objs.size=NI:=I.aW.fresh (NS _)
theorem Inv.qr(I:Inv X pins σ H s)(hH:H l=NG (.lst xs)):xs.length<=NZ/\ ∃(ak:List NJ)(n:Nat),Vals xs ak/\xs.length=ak.length/\s.heap.get? l=NG { cls:= .type "list",data:= .seq ak.toArray n}:=by
 obtain⟨z,ak,n,r,e⟩:=I.aW l _ hH;exact⟨z,ak,n,r,r.length,e⟩
theorem pM(h:n<=NZ):Rb n=false:=by
 exact decide_eq_false (by omega)
end
section
variable{X:Cx}
def zq:V->List V->Hp->VK->Prop:=λx vs H Q=> ∃ l xs y,x= .ref l/\vs=[y]/\H l=NG (.lst xs)/\xs.length < NZ/\Q .non (upd H l (.lst (xs++[y])))
theorem tE:MZ X "list.append" zq:=by
 intro pins s σ H x vs v us Q I rx rv h;obtain⟨l,xs,y,rfl,rfl,hH,hz,q⟩:=h;cases rx;obtain⟨u,rfl,ru⟩:=rv.one;obtain⟨z,ak,n,r,hl,e⟩:=I.qr hH;refine PU F.slot_list_append ⟨_,e,rfl⟩ F.entry_list_append (F.args_list_append_2 _ _) (PySem.list_append l ak.toArray n u (by simp_all)) ⟨e,?_⟩;refine⟨.non,_,I.IH (its':=ak++[u]) hH e (by simp) (r.append (.cons ru .nil)) ?_,rfl,q⟩;rw[NX,TN];omega
def zf:V->List V->Hp->VK->Prop:=λx vs H Q=> ∃ l b xs zs,x= .ref l/\vs=[.ref b]/\H l=NG (.lst xs)/\H b=NG (.lst zs)/\xs.length+zs.length<=NZ/\Q .non (upd H l (.lst (xs++zs)))
theorem tV:MZ X "list.extend" zf:=by
 intro pins s σ H x vs v us Q I rx rv h;obtain⟨l,b,xs,zs,rfl,rfl,hH,hB,hz,q⟩:=h;cases rx;obtain⟨u,rfl,ru⟩:=rv.one;cases ru;obtain⟨z,ak,n,r,hl,e⟩:=I.qr hH;obtain⟨z2,its2,n2,r2,hl2,e2⟩:=I.qr hB;have hsz:ak.toArray.size+its2.toArray.size<=NZ:=by rw[Oi,Oi];omega
 have hlong: ¬ (!ak.toArray.isEmpty&&Rb (ak.toArray.size+its2.toArray.size))=true:=by
  rw[pM hsz,P6];exact N6
 refine PU F.slot_list_extend ⟨_,e,rfl⟩ F.entry_list_extend (F.args_list_extend_2 _ _)
  (AutoSeq1.list_extend_list_list_0 l ak.toArray n b its2.toArray n2 hlong (by rw[Oi];omega) (by omega)) ⟨e,e2,?_⟩
 refine⟨.non,_,I.IH (its':=ak++its2) hH e (by simp) (r.append r2) ?_,rfl,q⟩;rw[NX];omega
def Ib:R2:=λx y H Q=> ∃ l b xs zs,x= .ref l/\y= .ref b/\H l=NG (.lst xs)/\H b=NG (.lst zs)/\xs.length+zs.length<=NZ/\ ∀ p,H p=NI->Q (.ref p) (upd H p (.lst (xs++zs)))
theorem Ds:bT X (O3 .Add) Ib:=by
 intro pins s σ H x y v u Q I rx ry h;obtain⟨l,b,xs,zs,rfl,rfl,hH,hB,hz,q⟩:=h;cases rx;cases ry;obtain⟨z,ak,n,r,hl,e⟩:=I.qr hH;obtain⟨z2,its2,n2,r2,hl2,e2⟩:=I.qr hB;refine PySem.P.add_list e e2 ?_ (by simp_all);have ea:ak.toArray++its2.toArray=(ak++its2).toArray:=by simp
 rw[ea];exact⟨.ref _,_,I.JL (t':=s.toks) (r.append r2) (by rw[NX];omega),rfl,q _ I.fresh⟩
def Lm:R2:=λx y H Q=> ∃ l k xs,x= .ref l/\y= .int k/\H l=NG (.lst xs)/\ -(2 ^ 63)<=k/\k < 2 ^ 63/\xs.length*k.toNat<=NZ /\
 ∀ p,H p=NI->Q (.ref p) (upd H p (.lst (NM k.toNat xs).flatten))
theorem len_rep{α :Type}(xs:List α) k:(NM k xs).flatten.length=k*xs.length:=by
 simp_all
theorem DA:bT X (O3 .Mult) Lm:=by
 intro pins s σ H x y v u Q I rx ry h;obtain⟨l,k,xs,rfl,rfl,hH,h1,h2,hz,q⟩:=h;cases rx;obtain⟨t,rfl⟩:=ry;obtain⟨z,ak,n,r,hl,e⟩:=I.qr hH;have hlen:ak.toArray.size*k.toNat<=NZ:=by rw[Oi,<- hl];exact hz
 have hcap: ¬ ak.toArray.size*k.toNat > (2 ^ 63 - 1) / 8:=by
  have:(NZ)<=(2 ^ 63 - 1) / 8:=by decide
  omega
 have hfit: ¬ (!Builtin.List.listFitsIndex k)=true:=by
  rw[fitsIndex_both h1 h2];exact N6
 have hlong: ¬ Rb (ak.toArray.size*k.toNat)=true:=by
  rw[pM hlen];exact N6
 have hnew:VW (λx1 x2=>x1++x2) #[] (NM (if ak.toArray.isEmpty=true then 0 else k.toNat) ak.toArray)=(NM k.toNat ak).flatten.toArray:=by
  have f0:=λm=>by
   have:=foldl_rep ak m [];rw[Oo] at this;exact this
  rw[f0];cases ak with
  | nil=>simp
  | cons a r'=>rfl
 refine SH (T:= "list") (U:= "int") (by decide) ⟨_,e,rfl⟩ (λs'=>Tn s' k t) noFill_list_mul F.fills_int_mul F.slot_int_rmul repeat_list F.slot_int_index.lookup
  (PU F.slot_int_rmul (Tn s k t) F.entry_int_rmul (F.args_int_rmul_2 _ _) (int___rmul___int_list k t l ak.toArray n)
   ⟨e,rfl,⟨_,e,rfl⟩,PU F.slot_list_mul ⟨_,e,rfl⟩ F.entry_list_mul (F.args_list_mul_2 _ _) (AutoListH.list___mul___list_int_3 l ak.toArray n k t hfit hcap hlong) ⟨e,?_⟩⟩)
 rw[hnew];exact⟨.ref _,_,I.JL (t':=s.toks) (r.rep k.toNat) (by rw[len_rep,Sj];exact hz),rfl,q _ I.fresh⟩
end
end L2
namespace Att
open PySem PySem.W PySem.Calls PyProof.Rows
theorem jq: ∀ ns vs,WellAll P h vs (ns.map W3)->VM vs ns:=by
 intro ns
 induction ns with
 | nil =>
  intro vs w
  cases w
  exact .nil
 | cons n ns ih =>
  intro vs w
  cases w with
  | cons a b =>
   cases a
   exact .cons _ _ (ih _ b)
theorem uC{l : R3}(hn : l.most = NG n) 
    (hpre : l.row.toRowW.claim.pre args = true) (hwl : WellAll P h vals args) :
    ∃ a vs ns, vals = [Oe a] /\ args = [WData.list (ns.map W3)] /\ h.get? a = NG { cls := .type "list", data := .seq vs.toArray} /\ VM vs ns /\ ns.length <= n := by
  have hsh : WShape.hasAll [] args [.list .int] = true := (pre_splitW hpre).1;have hc : l.pre.holds [] { args := args} = true := (pre_splitW hpre).2;obtain ⟨d, r, rfl, h1, h2⟩ := hasAllW_cons hsh;obtain rfl := hasAllW_nil h2;obtain ⟨xs, rfl, h3⟩ := hasW_list h1;obtain ⟨ns, rfl⟩ := items_int h3;have hlen : ns.length <= n := by
    have h4 : (WTm.not (.lt (.lit (.int (n))) (.len (.arg 0)))).holds [] { args := [.list (ns.map .int)]} = true := by
      have h4 := (holds_andW hc).1;rw [hn] at h4;exact h4
    have h5 := condW_of h4 (w_not (w_lt w_lit (w_len_list (w_arg rfl))))
    first
      | (exact absurd h5 (by decide))
      | (simp at h5; omega)
  cases hwl with
  | cons w1 w2 =>
    cases w2
    cases w1 with
    | list ho hall => exact ⟨_, _, ns, rfl, rfl, ho, jq ns _ hall, hlen⟩
theorem tN(l:R3) args:l.row.toRowW.claim.post args (.bool true) args=true :=
 postW_of (r:=l.row.toRowW) (X:=(true == true))
  (show WShape.has [] (.bool true) .bool=true by first | rfl | decide | simp [WShape.arms])
  (show(WTm.eq .res (.lit (.bool true))).value [] { args:=args,res:=NG (.bool true),after:=args}=NG (.bool (true == true)) from w_eq_bool (w_res rfl) w_lit) rfl
theorem pf{l:R3}{n:Nat}{q:Om}{loose:List Str}{XP:(Str->Option NJ)->OQ->Prop}{YP:OC->OQ->Prop}{d:DefRec}
  (hn:l.most=NG n) (hdf:d.params.defaults=[])
  (call: ∀(w:OC)(s₀ s₁ :NO)(mg mb:Str->Option NJ)(fa:NQ)(o:Obj)(pm cd doc:NJ)(a:NQ)(vs:List NJ)(ns:List Int),
   Ground q loose [] XP w s₀ mg mb s₁.heap->YP w s₁.heap ->
   s₁.heap.get? fa=NG o->o.data= .func (docDef d.name d.params d.body d.scope pm cd doc)->s₁.heap.CodeRec cd d.name->mg d.name=NG (.ref fa) ->
   s₁.heap.get? a=NG { cls:= .type "list",data:= .seq vs.toArray}->VM vs ns->ns.length<=n->s₁.gens= #[] ->
   Si (Of l.prog w) Um (.call (.ref fa) ⟨[.ref a],[]⟩) (λr s'=>r= .ok (.ret (.bool true))/\OldK s₁.heap s'.heap/\s'.os=s₁.os/\Q1 s'.gens) s₁) :
  VN q loose XP YP l.row.toRowW d [] (λf vs=>VX f vs):=by
 intro w s₀ s₁ mg mb G Y fa o pm cd doc dV kV ho hd hcd hD hmg hg args vals as hpre hlay hrd hwl hlo;obtain rfl:dV= .none:=Dflts.none hD hdf;obtain rfl:kV= .none:=Dflts.noKw hD;obtain⟨a,vs,ns,rfl,rfl,hobj,hints,hlen⟩:=uC hn hpre hwl;refine enter_call (Tg (call w s₀ s₁ mg mb fa o pm cd doc a vs ns G Y ho (fd_plain hd) hcd hmg hobj hints hlen hg) λr s' hq=>?_);obtain⟨rfl,h2,h3,h4⟩:=hq;exact⟨.inl ⟨.bool true,.bool true,[],rfl,λ_=>rfl,.bool true,tN l _,λ_=>⟨W2,λ_ hm=>(by cases hm)⟩⟩,h2,h3,h4⟩
section
variable{prog:Om}{w:OC}{A:OI}{E:NJ->NO->Prop}{s:NO}{K:NH}
noncomputable def ledger(h:OQ) L d:=(Oa h.objs.size).filterMap λa=>if a=L\/a=d then NI else(h.get? a).map λo=>(a,o)
end
end Att
namespace L2
open PySem PySem.Spec PyProof.Rows
theorem lZ: ∀{vs ns},VM vs ns->Vals (ns.map V.int) vs
 | _,_,.nil=> .nil
 | _,_,.cons n t h=> .cons ⟨t,rfl⟩ (lZ h)
def uY(H:Hp):= ∀ b,H b=NI\/ ∃ o xs,H b=NG (.dw o (.lst xs))
theorem va{K} 
  (KX:K.In s₁.heap) (hns:s₁.heap.Ns Ox mg) (hb:s₁.heap.Ns VQ mb) (hbb: ∀ x:Str,x≠ "__name__" ->mb x=OX x) (hlim:s₁.heap.NoLimit) (hg:s₁.gens= #[])
  (ha:s₁.heap.get? a=NG { cls:= .type "list",data:= .seq vs.toArray}) (hi:VM vs ns) (hl:ns.length<=NZ) (hr:bZ k Um)
  (F: ∀ base ,K.In base->base.Ns Ox mg->fV P w K mg base CX k fa fd [x] sp) (hbind: ∀ s u,SJ s fd ⟨[u],[]⟩ [(x,u)])
  (hsp: ∀ H ,uY H->d9 K H a (ns.map V.int)->sp [.ref a] H (λv _=>v= .bl true) λ_ _ _=>False)
  (hCX: ∀ H e s',CX [] H s₁ (λ_ _ _=>False) e s'->False) :
  Si (Of P w) Um (.call (.ref fa) ⟨[.ref a],[]⟩) (λr s'=>r= .ok (.ret (.bool true))/\OldK s₁.heap s'.heap/\s'.os=s₁.os/\Q1 s'.gens) s₁ :=by
 have rv:=lZ hi;have lenV:=hi.length;have core: ∀ H ,uY H->d9 K H a (ns.map V.int)->fb P w H s₁.heap->(∀ b,H b≠NI->b=a)->(H a≠NI->K.lookup a=NI) ->
   Si (Of P w) Um (.call (.ref fa) ⟨[.ref a],[]⟩) (λr s'=>r= .ok (.ret (.bool true))/\OldK s₁.heap s'.heap/\s'.os=s₁.os/\Q1 s'.gens) s₁ :=by
  intro H hO hS aW hA hK;have base_of: ∀{b:NQ}{o:Obj},s₁.heap.get? b=NG o->H b=NI->(pj s₁.heap H).get? b=NG o:=λe n=>wA e n;have noA: ∀{b:NQ}{o:Obj}{es:Array WA}{ep:Nat},s₁.heap.get? b=NG o->o.data= .dict es ep->H b=NI:=λ{b o es ep} e d=>by
   cases q:H b with
   | none=>rfl
   | some u =>
    have e':=hA b (by rw[q];simp)
    subst e'
    rw[ha] at e;cases e
    have d':=d
    cases d'
  have nsK: ∀{b:NQ}{m:Str->Option NJ},s₁.heap.Ns b m->(pj s₁.heap H).Ns b m:=λ{b m}=>by rintro ⟨o,es,ep,e,d,r⟩;exact⟨o,es,ep,base_of e (noA e d),d,r⟩
  have hKb:=λb o e=>base_of (KX b o e) (by
   cases q:H b with
   | none=>rfl
   | some u =>
    have e':=hA b (by rw[q];simp)
    subst e'
    rw[hK (by rw[q];simp)] at e;cases e)
  have hM:Mod K mg (pj s₁.heap H):=⟨hKb,nsK hns,⟨mb,nsK hb,hbb⟩,by obtain⟨mc,h1,h2⟩:=hlim;exact⟨mc,nsK h1,h2⟩⟩
  have e0:jK P w K mg (pj s₁.heap H) Um [] s₁ H:=⟨rfl,hM,λb o e=>yw e,Te (sX _ _),trivial,λb hb=>absurd (show b∈([]) from hb) (by simp),aW,.of_eq hg⟩
  refine Tg ((F _ hKb (nsK hns)).run Um [] s₁ H ⟨[.ref a],[]⟩ [.ref a] [.ref a] _ _ hr e0 (hbind s₁ (.ref a)) (.cons rfl .nil) (hsp H hO hS)) λr s' h=>?_;cases r with
  | error e=>exact(hCX H e s' h).elim
  | ok fl =>
   cases fl with
   | next=>exact Pz h
   | brk=>exact Pz h
   | cont=>exact Pz h
   | ret u =>
    obtain⟨v,H',os,bare,un,hok',r',q⟩:=h
    have q':=q
    subst q'
    obtain rfl:u=Sq true:=r'
    refine⟨rfl,OldK.of_keep λb o e=>?_,os,bare⟩
    cases q:H b with
    | none=>exact un.keep b o e q (by intro z;exact absurd (show b∈([]) from z) (by simp)) (by simp)
    | some u =>
     rcases hO b with z | ⟨ob,xs,z⟩
     . rw[q] at z;cases z
     . have z2:=un.fm b ob _ z;obtain⟨e1,_⟩:=aW b _ z;obtain⟨e2,_⟩:=hok' b _ z2;rw[e] at e1;cases e1;exact e2
 cases hk:K.lookup a with
 | some o =>
  have e:=KX a o hk
  rw[ha] at e
  cases e
  refine core (λ_=>NI) (λ_=> .inl rfl) (.inr ⟨_,vs.toArray,_,hk,rfl,rfl,rfl,by simp_all,by omega⟩) (λb u z=>by simp_all) (λb z=>absurd rfl z) λz=>absurd rfl z
 | none =>
  refine core (λb=>if b=a then NG (.dw { cls:= .type "list",data:= .seq vs.toArray} (.lst (ns.map V.int))) else NI) (λb=>?_) (.inl (.inr ⟨{ cls:= .type "list",data:= .seq vs.toArray},if_pos rfl⟩)) (λb u z=>?_) (λb z=>?_) λ_=>hk
  . by_cases hb:b=a
    . exact .inr ⟨_,_,if_pos hb⟩
    . exact .inl (if_neg hb)
  . by_cases hb:b=a
    . have z':=(if_pos hb).symm.trans z;cases z';subst hb;exact⟨ha,by simp_all,vs,_,rv,ha⟩
    . simp_all
  . by_cases hb:b=a
    . exact hb
    . exact absurd (if_neg hb) z
theorem Bo{l:R3}{n k:Nat}{q:Om}{loose:List Str}{XP:(Str->Option NJ)->OQ->Prop}{YP:OC->OQ->Prop}{d:DefRec}{K:Params->NH}{CX:OC->ym}{sp:OC->Sp}{x:Str}
  (hn:l.most=NG n) (hn2:n<=NZ) (hdf:d.params.defaults=[]) (hr:bZ k Um)
  (hY: ∀(w:OC)(h:OQ),YP w h->(K w.params).In h)
  (F: ∀(w:OC)(mg:Str->Option NJ)(fa:NQ)(h:OQ),(K w.params).In h->h.Ns Ox mg->mg d.name=NG (.ref fa) ->
   ∃ fd:P5,(∀(s:NO)(u:NJ),SJ s fd ⟨[u],[]⟩ [(x,u)]) /\
    ∀ base:OQ,(K w.params).In base->base.Ns Ox mg->fV l.prog w (K w.params) mg base (CX w) k fa fd [x] (sp w))
  (hsp: ∀(w:OC)(H:Hp)(a:NQ)(ns:List Int),ns.length<=n->uY H->d9 (K w.params) H a (ns.map V.int)->sp w [.ref a] H (λv _=>v= .bl true) λ_ _ _=>False)
  (hCX: ∀(w:OC)(H:Hp)(s:NO)(e:NJ)(s':NO),CX w [] H s (λ_ _ _=>False) e s'->False) :
  VN q loose XP YP l.row.toRowW d [] (λf vs=>VX f vs):=by
 refine Att.pf hn hdf λw s₀ s₁ mg mb fa o pm cd doc a vs ns G Y ho hd hcd hmg hobj hints hlen hg=>?_;have KX:=hY w _ Y;obtain ⟨fd,hb,hF⟩:=F w mg fa _ KX G.T.g hmg;exact va KX G.T.g G.T.b G.T.builtins G.T.nolimit hg hobj hints (N5 hlen hn2) hr hF hb (λH hO hS=>hsp w H a ns hlen hO hS) λH e s'=>hCX w H s₁ e s'
end L2
/- THE LAST THEOREM (shape; LID, My.* are yours):
   My.Adr: a structure of the addresses that your layer names (classes, functions); My.Txt K t: a structure (Prop) of the equations over K;
   My.txt_mk : {K} {implicit addresses ..} (e1 : O8 K Ox "law" = NG (NG (.ref f))) (e2 : K.lookup f = NG ⟨oc, od, .func (OA "law" "law" params body scope dV kV doc pm an cdv ct), sl⟩) (e3 : R8 K cdv "law" = true) .. : ∃ t, My.Txt K t
set_option maxRecDepth 100000 in
(the tactic k_is has no namespace:write k_is) -/
namespace L2
open PySem PySem.Spec PyProof.Rows
noncomputable def aS(s:Pn):=match s with
 | .FunctionDef _ a _ _ _ _ _ _ _ _=>a
 | _=>{ posonlyargs:=[],args:=[],vararg:=NI,kwonlyargs:=[],kw_defaults:=[],kwarg:=NI,defaults:=[]}
noncomputable def ay(s:Pn):=match s with
 | .FunctionDef _ _ b _ _ _ _ _ _ _=>b
 | _=>[]
noncomputable def ae(s:Pn):=match s with
 | .FunctionDef _ _ _ _ _ _ sc _ _ _=>sc
 | _=>{ kind:= .function,names:=[],isGenerator:=false,isCoroutine:=false}
abbrev Mu:ym:=λ_ _ _ _ _ _=>False
abbrev E0:XK:=λ_ _ _=>False
structure mP(K:NH)(x qual:Str)(st:Pn)(f:NQ)(fd:P5):Prop where
 ex: ∃(oc:NJ)(od:Option NQ)(kV doc pm:NJ)(an:Option NQ)(cdv ct:NJ)(osl:Array (Option NJ)),
  fd=OA x qual (aS st) (ay st) (ae st) .none kV doc pm an cdv ct/\K.lookup f=NG ⟨oc,od,.func fd,osl⟩/\R8 K cdv qual=true
 kp:OZ K (.ref f)=true
section
variable{P:Om}{w:OC}{K:NH}{mg:Str->Option NJ}{base:OQ}
theorem mP.ok{st}(F:mP K x qual st f fd)(S:br N ps (ae st))(len: ∀ vs H Q E,sp vs H Q E->vs.length=ps.length)
  (hbody: ∀ cdv A outer s H vs Q E,bZ k (A.deeper (QU qual (ae st) s.heap.objs.size f cdv))->sp vs H Q E ->
   ∃ t,kO (cJ Mu P w K mg base N qual (ae st) f cdv A outer s H E).c8 (ay st) t/\t { nx:=λ_ H'=>Q .non H',rt:=Q} (start N vs) H):fV P w K mg base Mu (k+1) f fd ps sp:=by
 obtain⟨oc,od,kV,doc,pm,an,cdv,ct,osl,rfl,lk,hcd⟩:=F.ex;refine B9 lk hcd S len λA outer s H vs Q E hr hsp=>?_;obtain⟨t,h,q⟩:=hbody cdv A outer s H vs Q E hr hsp;exact⟨t,h.c8,q⟩
theorem mP.binds{st}(F:mP K x qual st f fd)
  (h: ∀ kV doc pm an cdv ct us,us.length=ps.length->Pw (OA x qual (aS st) (ay st) (ae st) .none kV doc pm an cdv ct) ⟨us,[]⟩=pure (ps.zip us)):Binds K fd ps []:=by
 obtain⟨oc,od,kV,doc,pm,an,cdv,ct,osl,rfl,lk,hcd⟩:=F.ex;exact .all (h kV doc pm an cdv ct)
theorem vL{st kV}(l:K.lookup f=NG ⟨oc,od,.func (OA x qual (aS st) (ay st) (ae st) .none kV doc pm an cdv ct),osl⟩)
  (c:R8 K cdv qual=true) (k:OZ K (.ref f)=true):mP K x qual st f (OA x qual (aS st) (ay st) (ae st) .none kV doc pm an cdv ct):=⟨⟨oc,od,kV,doc,pm,an,cdv,ct,osl,rfl,l,c⟩,k⟩
end
theorem Kk(hr:bZ k A):A.units+1 < RE:=UL (Nat.add_le_add_left (by decide) _) hr.units
def hU(H H':Hp):= ∀ b o,H b=NG o->H' b=NG o
theorem hU.trans(a:hU H H1)(b:hU H1 H2):hU H H2:=λc o h=>b c o (a c o h)
theorem hU.free(e:hU H H')(h:H' l=NI):H l=NI:=by
 cases q:H l with
 | none=>rfl
 | some o =>
  rw[e l o q] at h
  cases h
theorem hU.seq{K:NH}{H H':Hp}{a:NQ}{xs:List V}(e:hU H H')(h:d9 K H a xs):d9 K H' a xs:=by
 rcases h with(h | ⟨o,h⟩) | h
 . exact .inl (.inl (e _ _ h))
 . exact .inl (.inr ⟨o,e _ _ h⟩)
 . exact .inr h
open PySem PySem.W PyProof.Rows
section
variable{κ :Type}[DecidableEq κ]
noncomputable def eU(kvs:List (κ × V)) k:=(kvs.find? λkv=>decide (kv.1=k)).map (·.2)
noncomputable def putK kvs (k: κ) (v:V) :=
 if (kvs.any λkv=>decide (kv.1=k))=true then kvs.map (λkv=>if kv.1=k then(kv.1,v) else kv) else kvs++[(k,v)]
theorem jC{k: κ}(e:p.1=k):eU (p::r) k=NG p.2:=by simp[eU,e]
theorem kh{k: κ}(e: ¬ p.1=k):eU (p::r) k=eU r k:=by simp[eU,e]
theorem oQ(k: κ): ∀ kvs ,(kvs.any λkv=>decide (kv.1=k))=(eU kvs k).isSome
 | []=>rfl
 | p::r=>by
  rw[Qf];by_cases e:p.1=k
  . simp only[jC e,decide_eq_true e,U6,UM]
  . rw[kh e,decide_eq_false e];exact oQ k r
theorem iT kvs (k: κ) v:(putK kvs k v).length<=kvs.length+1:=by
 unfold putK;split
 . simp_all
 . simp_all
theorem eY.dX(r:eY o u):o.isSome=u.isSome:=by
 cases o with
 | none=>cases u with
  | none=>rfl
  | some _=>exact(show False from r).elim
 | some _=>cases u with
  | none=>exact(show False from r).elim
  | some _=>rfl
theorem eY.getD(r:eY o u)(rd:RelV d d'):RelV (o.getD d) (u.getD d'):=by
 cases o with
 | none=>cases u with
  | none=>exact rd
  | some _=>exact(show False from r).elim
 | some _=>cases u with
  | none=>exact(show False from r).elim
  | some _=>exact r
theorem KV.val(r:KV kvs vs)(k: κ):eY (eU kvs k) (Uo vs k):=by
 induction r with
 | nil=>exact Tf
 | @cons p q ps qs h t ih =>
  obtain⟨h1,h2⟩:=h
  by_cases e:p.1=k
  . have e':=h1.symm.trans e;have b:Uo (q::qs) k=NG q.2:=by simp[Uo,e']
    rw[jC e,b];exact h2
  . have e': ¬ q.1=k:=λz=>e (h1.trans z);have b:Uo (q::qs) k=Uo qs k:=by simp[Uo,e']
    rw[kh e,b];exact ih
theorem KV.any(r:KV kvs vs)(k: κ):(kvs.any λkv=>decide (kv.1=k))=vs.any λkv=>decide (kv.1=k):=by
 induction r with
 | nil=>rfl
 | cons h t ih=>simp_all
theorem KV.Fb(r:KV kvs vs)(k: κ)(ry:RelV y u) :
  KV (kvs.map λkv=>if kv.1=k then(kv.1,y) else kv) (vs.map λkv=>if kv.1=k then(kv.1,u) else kv):=by
 induction r with
 | nil=>exact .nil
 | @cons p q ps qs h t ih =>
  rw[NR,NR]
  refine .cons ?_ ih
  obtain⟨h1,h2⟩:=h
  by_cases e:p.1=k
  . rw[if_pos e,if_pos (h1.symm.trans e)];exact⟨h1,ry⟩
  . rw[if_neg e,if_neg (λz=>e (h1.trans z))];exact⟨h1,h2⟩
theorem KV.put(r:KV kvs vs)(k: κ)(ry:RelV y u):KV (putK kvs k y) (stored vs k u):=by
 unfold putK stored;rw[r.any k];by_cases e:(vs.any λkv=>decide (kv.1=k))=true
 . rw[if_pos e,if_pos e];exact r.Fb k ry
 . rw[if_neg e,if_neg e];exact WU r ⟨rfl,ry⟩
theorem KV.keys{kvs:List (κ × V)}{vs:List (κ × NJ)}(r:KV kvs vs):kvs.map (·.1)=vs.map (·.1):=by
 induction r with
 | nil=>rfl
 | cons h t ih=>simp_all
theorem KV.length{kvs:List (κ × V)}{vs:List (κ × NJ)}(r:KV kvs vs):kvs.length=vs.length:=Q9 r
end
theorem nW(r:RelV (kV k) u):(bH P w).is k u=true:=by
 cases k with
 | inl i=>obtain⟨t,e⟩:=(show ∃ t,u=Ui i t from r);subst e;exact oA P w i t
 | inr x=>obtain⟨t,e⟩:=(show ∃ t,u=Uj x t from r);subst e;exact oa P w x t
theorem lM: ∀{ks us},Vals (ks.map kV) us->ItemsAre (bH P w) ks us
 | [],_,r=>by cases r;exact .nil
 | k::ks,_,r=>by
  cases r with
  | cons h t=>exact .cons (nW h) (lM t)
abbrev KT(H:Hp):List (List Key × V)->List (List Key × NQ × NJ)->Prop:=Pd λp q=>p.1=q.1/\H q.2.1=NG (.tup (p.1.map kV))/\RelV p.2 q.2.2
theorem KT.val(r:KT H kvs xs) k:eY (eU kvs k) ((VA xs k).map (·.2)):=by
 induction r with
 | nil=>exact Tf
 | @cons p q ps qs h t ih =>
  obtain⟨h1,_,h2⟩:=h
  by_cases e:p.1=k
  . have e':=h1.symm.trans e;have b:VA (q::qs) k=NG q.2:=by simp[VA,e']
    rw[jC e,b];exact h2
  . have e': ¬ q.1=k:=λz=>e (h1.trans z);have b:VA (q::qs) k=VA qs k:=by simp[VA,e']
    rw[kh e,b];exact ih
theorem KT.Fb(r:KT H kvs xs) k (ry:RelV y u) :
  KT H (kvs.map λkv=>if kv.1=k then(kv.1,y) else kv) (xs.map (putAt k u)):=by
 induction r with
 | nil=>exact .nil
 | @cons p q ps qs h t ih =>
  rw[NR]
  refine .cons ?_ ih
  obtain⟨h1,h2,h3⟩:=h
  unfold putAt
  by_cases e:p.1=k
  . rw[if_pos e,if_pos (h1.symm.trans e)];exact⟨h1,h2,ry⟩
  . rw[if_neg e,if_neg (λz=>e (h1.trans z))];exact⟨h1,h2,h3⟩
theorem KT.put(r:KT H kvs xs) k (hb:H b=NG (.tup (k.map kV))) (ry:RelV y u) :
  KT H (putK kvs k y) (storedH xs k b u):=by
 have e:(kvs.any λkv=>decide (kv.1=k))=(VA xs k).isSome:=by
  rw[oQ,(r.val k).dX,SM]
 unfold putK storedH;rw[e];by_cases q:(VA xs k).isSome=true
 . rw[if_pos q,if_pos q];exact r.Fb k ry
 . rw[if_neg q,if_neg q];exact WU r ⟨rfl,hb,ry⟩
theorem KT.keeps(r:KT H kvs xs)(ht: ∀ b ys,H b=NG (.tup ys)->H' b=NG (.tup ys)):KT H' kvs xs :=
 Paired.zc r λ_ _ z=>⟨z.1,ht _ _ z.2.1,z.2.2⟩
section
variable{P:Om}{w:OC}{H:Hp}{h:OQ}{a:NQ}
theorem Cp(ok:fb P w H h)(e:Rd H a u):cj P w H h a u:=e.ok ok
theorem lJ(ok:fb P w H h)(e:Rd H a (.dK kvs)):kvs.length<=NZ/\(a == QR)=false/\ ∃ vs,KV kvs vs/\h.DictOf (bH P w) a vs :=
 show cj P w H h a (.dK kvs) from Cp ok e
theorem BV(ok:fb P w H h)(e:H a=NG (.dK kvs)):kvs.length<=NZ/\(a == QR)=false/\ ∃ vs,KV kvs vs/\h.DictOf (bH P w) a vs:=lJ ok (.inl e)
theorem jL(ok:fb P w H h)(e:H a=NG (.tup (ks.map kV))):(Uk (bH P w)).is h ks a:=by
 obtain⟨_,ak,r,o,h1,h2,n,h3,_⟩:=(show cj P w H h a (.tup (ks.map kV)) from ok a _ e)
 exact⟨o,ak.toArray,n,h1,h2,h3,by simpa using lM r⟩
theorem oX(ok:fb P w H h)(e:Rd H a (.dT kvs)):kvs.length<=NZ/\(a == QR)=false /\
  ∃ xs,KT H kvs xs/\h.DictOfH (Uk (bH P w)) a xs:=by
 obtain⟨z,y,xs,r,o,es,ep,h1,h2,h3,h4,h5⟩:=(show cj P w H h a (.dT kvs) from Cp ok e)
 refine⟨z,y,xs,r,o,es,ep,h1,h2,h3,h4,λx hx=>?_,h5⟩;have all: ∀{l m},KT H l m-> ∀ x∈m,(Uk (bH P w)).is h x.1 x.2.1:=by
  intro l m q
  induction q with
  | nil=>simp_all
  | @cons p q ps qs hq t ih =>
   intro x hx
   rcases Ot.mp hx with e | hx
   . subst e;exact jL ok (by rw[<- hq.1];exact hq.2.1)
   . exact ih x hx
 exact all r x hx
theorem He(ok:fb P w H h)(e:H a=NG (.dT kvs)):kvs.length<=NZ/\(a == QR)=false /\
  ∃ xs,KT H kvs xs/\h.DictOfH (Uk (bH P w)) a xs:=oX ok (.inl e)
end
def iQ H (a:NQ) y (r:Option V) :=
 (∃ kvs k,Rd H a (.dK kvs)/\y=kV k/\r=eU kvs k)\/ ∃ kvs k b,Rd H a (.dT kvs)/\y= .ref b/\H b=NG (.tup (k.map kV))/\r=eU kvs k
def pZ H (a:NQ) y v H' :=
 (∃ kvs k,H a=NG (.dK kvs)/\y=kV k/\kvs.length < NZ/\H'=upd H a (.dK (putK kvs k v))) \/
 ∃ kvs k b,H a=NG (.dT kvs)/\y= .ref b/\H b=NG (.tup (k.map kV))/\kvs.length < NZ/\H'=upd H a (.dT (putK kvs k v))
theorem iQ.k{H:Hp}{a:NQ}{kvs:List (Key × V)}{k:Key}(e:H a=NG (.dK kvs)):iQ H a (kV k) (eU kvs k):= .inl ⟨kvs,k,.inl e,rfl,rfl⟩
theorem iQ.t{H:Hp}{a b:NQ}{kvs:List (List Key × V)}{k:List Key}(e:H a=NG (.dT kvs))(eb:H b=NG (.tup (k.map kV))):iQ H a (.ref b) (eU kvs k):= .inr ⟨kvs,k,b,.inl e,rfl,eb,rfl⟩
theorem pZ.k{H:Hp}{a:NQ}{kvs:List (Key × V)}{k:Key}{v:V}(e:H a=NG (.dK kvs))(hl:kvs.length < NZ):pZ H a (kV k) v (upd H a (.dK (putK kvs k v))):= .inl ⟨kvs,k,e,rfl,hl,rfl⟩
theorem pZ.t{H:Hp}{a b:NQ}{kvs:List (List Key × V)}{k:List Key}{v:V}(e:H a=NG (.dT kvs))(eb:H b=NG (.tup (k.map kV)))(hl:kvs.length < NZ) :
  pZ H a (.ref b) v (upd H a (.dT (putK kvs k v))):= .inr ⟨kvs,k,b,e,rfl,eb,hl,rfl⟩
section
variable{X:Cx}{pins:List (NQ × Obj)}{σ :St}{H:Hp}{s:NO}{a:NQ}{y v:V}{u r:NJ}{o:Option V}{A:OI}{E:NJ->NO->Prop}
theorem Inv.big(I:Inv X pins σ H s):QR < s.heap.objs.size:=by
 have h:=(I.mod.glob.keeps I.bk).lt;exact Nat.lt_trans (by decide) h
theorem ue(hu:A.units+1 < RE)(I:Inv X pins σ H s)(g:iQ H a y (NG v))(ry:RelV y u)(h: ∀ w' s',Inv X pins σ H s'->RelV v w'->Q w' s') :
  Ob (Of X.prog X.w) A (Ti (.ref a) u) Q E s:=by
 rcases g with⟨kvs,k,e,ey,l⟩ | ⟨kvs,k,b,e,ey,eb,l⟩
 . subst ey;obtain⟨z,hd,vs,rel,dd⟩:=lJ I.aW e;obtain⟨w',hw,rw'⟩:=eY.some_of (v:=v) (o:=Uo vs k) (by rw[l];exact rel.val k);exact wpAny_getItem_of (nW ry) dd.mapOf hw (h w' _ (I.tok _) rw')
 . subst ey;cases(show u=Oe b from ry);obtain⟨z,hd,xs,rel,dd⟩:=oX I.aW e;obtain⟨w',hw,rw'⟩:=eY.some_of (v:=v) (o:=(VA xs k).map (·.2)) (by rw[l];exact rel.val k)
   obtain⟨p,hp,hp2⟩:=PY.mp hw;refine wpAny_getItem_heap (Rt hu) (jL I.aW eb) dd hp ?_;rw[hp2];exact h w' _ (I.tok _) rw'
theorem LO{Q:NJ->NO->Prop}(hu:A.units+1 < RE)(I:Inv X pins σ H s)(g:iQ H a y o)(ry:RelV y u)(h: ∀ s',Inv X pins σ H s'->Q (.bool o.isSome) s') :
  Ob (Of X.prog X.w) A (Ol .In u (.ref a)) Q E s:=by
 rcases g with⟨kvs,k,e,ey,l⟩ | ⟨kvs,k,b,e,ey,eb,l⟩
 . subst ey;obtain⟨z,hd,vs,rel,dd⟩:=lJ I.aW e;refine wpAny_in_of (nW ry) hd dd.mapOf ?_;rw[<- (rel.val k).dX,<- l];exact h _ (I.tok _)
 . subst ey;cases(show u=Oe b from ry);obtain⟨z,hd,xs,rel,dd⟩:=oX I.aW e;refine wpAny_in_heap (Rt hu) (jL I.aW eb) hd dd ?_;have q:=(rel.val k).dX;rw[SM] at q;rw[<- q,<- l];exact h _ (I.tok _)
theorem ze{Q:NJ->NO->Prop}(hu:A.units+1 < RE)(I:Inv X pins σ H s)(g:iQ H a y o)(ry:RelV y u)(h: ∀ s',Inv X pins σ H s'->Q (.bool (!o.isSome)) s') :
  Ob (Of X.prog X.w) A (Ol .NotIn u (.ref a)) Q E s:=by
 rcases g with⟨kvs,k,e,ey,l⟩ | ⟨kvs,k,b,e,ey,eb,l⟩
 . subst ey;obtain⟨z,hd,vs,rel,dd⟩:=lJ I.aW e;refine wpAny_notIn_of (nW ry) hd dd.mapOf ?_;rw[<- (rel.val k).dX,<- l];exact h _ (I.tok _)
 . subst ey;cases(show u=Oe b from ry);obtain⟨z,hd,xs,rel,dd⟩:=oX I.aW e;refine wpAny_notIn_heap (Rt hu) (jL I.aW eb) hd dd ?_;have q:=(rel.val k).dX;rw[SM] at q;rw[<- q,<- l];exact h _ (I.tok _)
theorem rN(I:Inv X pins σ H s)(mu:Jl (H a))(hs:Td a s.heap h')(he: ∃ q,h'.get? a=NG q)(new:cj X.prog X.w (upd H a ob) h' a ob) :
  Inv X pins σ (upd H a ob) { s with heap:=h',toks:=t'} :=
 I.write (x:=a) (e:=a) mu (.inl rfl) (λb q hb z=>(hs.2 b hb).trans z) he new
theorem EN(z:kvs.length<=NZ)(hd:(a == QR)=false)(rel:KV kvs vs)(dd:h'.DictOf (bH P w) a vs) :
  cj P w H' h' a (.dK kvs):=⟨z,hd,vs,rel,dd⟩
theorem uz{H':Hp}{Q:Unit->NO->Prop}(hu:A.units+1 < RE)(I:Inv X pins σ H s)(g:pZ H a y v H')(ry:RelV y u)(rv:RelV v r)(h: ∀ s',Inv X pins σ H' s'->Q () s') :
  Ob (Of X.prog X.w) A (WE (.ref a) u r) Q E s:=by
 rcases g with⟨kvs,k,e,ey,l,eH⟩ | ⟨kvs,k,b,e,ey,eb,l,eH⟩
 . subst ey eH;obtain⟨z,hd,vs,rel,dd⟩:=BV I.aW e;have hz:vs.length<=NZ:=by rw[<- rel.length];exact z
   have hl:(putK kvs k v).length<=NZ:=by have:=iT kvs k v;omega
   refine wpAny_setItem_pairs (hsz:=hz) (nW ry) dd λh' dd' hs=>h _ ?_;have he: ∃ q,h'.get? a=NG q:=by obtain⟨q,_,_,hq,_⟩:=dd';exact⟨q,hq⟩
   exact rN I (by rw[e];exact Tf) hs he (EN hl hd (rel.put k rv) dd')
 . subst ey eH;cases(show u=Oe b from ry);obtain⟨z,hd,xs,rel,dd⟩:=He I.aW e;have hz:xs.length<=NZ:=by rw[<- Q9 rel];exact z
   have hl:(putK kvs k v).length<=NZ:=by have:=iT kvs k v;omega
   refine wpAny_setItem_heap (hsz:=hz) (Rt hu) (jL I.aW eb) dd λh' dd' hs=>h _ ?_;obtain⟨q,es,ep,hq,h2,h3,h4,_,h5⟩:=dd';refine rN I (by rw[e];exact Tf) hs ⟨q,hq⟩ ⟨hl,hd,_,(rel.put k eb rv).keeps λc ys ec=>?_,q,es,ep,hq,h2,h3,h4,h5⟩;rw[aq (lW ec e (λz=>by cases z))];exact ec
end
section
variable{X:Cx}{pins:List (NQ × Obj)}{σ :St}{H:Hp}{s:NO}{a:NQ}{kvs:List (Key × V)}{k:Key}{u:NJ}{A:OI}{E:NJ->NO->Prop}
theorem Kn{Q:NJ->NO->Prop}(I:Inv X pins σ H s)(e:Rd H a (.dK kvs))(h: ∀ t s',Inv X pins σ H s'->Q (.int kvs.length t) s'):Ob (Of X.prog X.w) A (call (.builtin "len") [.ref a]) Q E s:=by
 obtain⟨z,hd,vs,rel,dd⟩:=lJ I.aW e;refine call_len_dict hd dd (by rw[<- rel.length];rw[TY] at z;omega) ?_;rw[<- rel.length];exact h _ _ (I.tok _)
end
theorem pQ{σ :St}(I:Inv X pins σ H s)(g:iQ H a y o):s.TypeIs (.ref a) "dict" :=by
 rcases g with⟨kvs,k,e,_,_⟩ | ⟨kvs,k,b,e,_,_,_⟩
 . obtain⟨_,_,vs,_,dd⟩:=lJ I.aW e;exact dd.typeIs
 . obtain⟨_,_,xs,_,dd⟩:=oX I.aW e;exact dd.typeIs
def j1:List (TE × TE)->St->Hp->(List (V × V)->Hp->Prop)->Prop
 | [],_,H,Q=>Q [] H
 | (tk,tv)::r, σ,H,Q=>tk σ H λx H1=>tv σ H1 λy H2=>j1 r σ H2 λps H3=>Q ((x,y)::ps) H3
abbrev VV:List (V × V)->List (NJ × NJ)->Prop:=Pd λp q=>RelV p.1 q.1∧RelV p.2 q.2
def Nn X pos (keys:List (Option Ou)) (values:List Ou) (trs:List (TE × TE)) :=
 ∀ pins s(σ :St) H Q,Inv X pins σ H s->j1 trs σ H Q ->
  Ob (Of X.prog X.w) X.A (evalPairs (pairTrees keys values X.env pos)) (λvs s'=> ∃ ps H',Inv X pins σ H' s'/\VV ps vs/\Q ps H') X.xe s
structure M1(X:Cx)(o:Ou)(m:Str)(apos:Pos)(e:Ou)(cpos:Pos):Prop where
 base:Qe o m X.env (Py o X.env)=Py o X.env
 kN:((Ro cpos (Oy [e] X.env)).all (λx=> !x.1)&&(backToKw cpos (Vz [] X.env)).all (λx=>x.1.isSome)
  && decide (([e]:List Ou).length+([]:List Ul).length+(if ([]:List Ul).isEmpty then 0 else 1) < 30))=true
 line:(apos.endLine == cpos.line)=true
 trees:Ro cpos (Oy [e] X.env)=[(false,Py e X.env)]
structure M2(X:Cx)(o:Ou)(m:Str)(apos:Pos)(e f:Ou)(cpos:Pos):Prop where
 base:Qe o m X.env (Py o X.env)=Py o X.env
 kN:((Ro cpos (Oy [e,f] X.env)).all (λx=> !x.1)&&(backToKw cpos (Vz [] X.env)).all (λx=>x.1.isSome)
  && decide (([e,f]:List Ou).length+([]:List Ul).length+(if ([]:List Ul).isEmpty then 0 else 1) < 30))=true
 line:(apos.endLine == cpos.line)=true
 trees:Ro cpos (Oy [e,f] X.env)=[(false,Py e X.env),(false,Py f X.env)]
section
variable{X:Cx}
theorem sO:aP X (.builtin "len") (λxs H Q=> ∃ a kvs,xs=[V.ref a]/\H a=NG (.dK kvs)/\Q (.int kvs.length) H):=by
 intro pins s σ H xs us Q I r h;obtain⟨a,kvs,rfl,ha,q⟩:=h;obtain⟨u,rfl,ru⟩:=vals1 r;cases ru;exact Kn I (.inl ha) λt s' I'=>⟨.int kvs.length,H,I',⟨t,rfl⟩,q⟩
end
def uW(n:Nat)(H:Hp)(h:OQ)(x C dx:NQ):Prop:= ∃ oe vs,h.get? x=NG oe/\oe.cls= .ref C/\oe.dict=NG dx/\oe.data= .fields vs/\n<=x/\H x=NI /\
 (vs[1]?=NG .none\/ ∃ T oT ts fl,vs[1]?=NG (.ref T)/\T≠x/\n<=T/\H T=NI/\h.get? T=NG oT/\oT.data= .fields ts/\ts[3]?=NG fl)
def ji(n:Nat)(H:Hp)(h:OQ)(x C dx:NQ):Prop:= ∃ oe vs,h.get? x=NG oe/\oe.cls= .ref C/\oe.dict=NG dx/\oe.data= .fields vs/\n<=x/\H x=NI /\
 ∃ T oT ts fl,vs[1]?=NG (.ref T)/\T≠x/\n<=T/\H T=NI/\h.get? T=NG oT/\oT.data= .fields ts/\ts[3]?=NG fl
theorem ji.Lq{n:Nat}{H:Hp}{h:OQ}{x C dx:NQ}(F:ji n H h x C dx):uW n H h x C dx:=let ⟨oe,vs,e1,e2,e3,e4,e5,e6,e7⟩:=F;⟨oe,vs,e1,e2,e3,e4,e5,e6,.inr e7⟩
structure eQ(n:Nat)(H:Hp)(fs:List NQ)(h h':OQ):Prop where
 keep: ∀ b o,h.get? b=NG o->(b < n\/H b≠NI)->b ∉ fs->h'.get? b=NG o
 slot: ∀ b o,h.get? b=NG o->b∈fs-> ∃ sl,h'.get? b=NG { o with slots:=sl}
 size:h.objs.size<=h'.objs.size
theorem eQ.trans{n:Nat}{H:Hp}{fs:List NQ}{h h1 h2:OQ}(a:eQ n H fs h h1)(b:eQ n H fs h1 h2):eQ n H fs h h2 :=
 ⟨λc o e p m=>b.keep c o (a.keep c o e p m) p m,λc o e m=>by
  obtain⟨_,e1⟩:=a.slot c o e m;obtain⟨sl,e2⟩:=b.slot c _ e1 m;exact⟨sl,e2⟩,N5 a.size b.size⟩
section
variable{M:VR}{A:OI}{E:NJ->NO->Prop}{s:NO}{env:Env}{outer:List Env}{base:OQ}{L x C dx:NQ}{n:Nat}{H:Hp}
theorem iw{h:OQ}{fs:List NQ}{T:NQ}{o:Obj}{ts:Array NJ}{i:Nat}{v:NJ}(e:h.get? T=NG o)(d:o.data= .fields ts)(hn:n<=T)(hH:H T=NI)(hf:T ∉ fs) :
  eQ n H fs h (h.update T (Rf (·.setIfInBounds i v))):=by
 have ne: ∀ b,b≠T->(h.update T (Rf (·.setIfInBounds i v))).get? b=h.get? b:=λb z=>OY _ _ (PX z)
 refine⟨λb q e1 p _=>?_,λb q e1 m=>⟨q.slots,?_⟩,by rw[RH];exact NS _⟩
 . refine(ne b λz=>?_).trans e1;subst z;rcases p with p | p
   . exact absurd p (Qg.mpr hn)
   . exact p hH
 . exact(ne b λz=>hf (z ▸ m)).trans e1
theorem uv{env':Env}{Q:NJ->NO->Prop}(hfr:A.frames=NG (env::outer))(hl:s.heap.FunFrames base (env::outer))(hf:env.frame=NG L)(hf':env'.frame=NG L)(h: ∀ g,Heap.SlotsOnly (ez (env::outer)) s.heap g->Q (.ref L) { s with heap:=g}):Ob M A (frameOf env') Q E s:=by
 unfold PySem.frameOf frameObject;refine NL (wpAny_frameEnvs hfr ?_);rw[show((env::outer).dropWhile λy=>y.frame !=env'.frame)=env::outer from by simp[List.dropWhile,hf,hf']];refine NL (NL (wpAny_readyFrames_fun hl λg so=>N2 ?_));rw[hf];exact N2 (h g so)
theorem oH{env':Env}{head:NJ}{hadNext:Bool}{oe:Obj}{vs:Array NJ}{Q:Unit->NO->Prop}(hfr:A.frames=NG (env::outer))(hl:s.heap.FunFrames base (env::outer))(hf:env.frame=NG L)(hf':env'.frame=NG L)
  (hx:s.heap.get? x=NG oe) (c1:oe.cls= .ref C) (c2:oe.dict=NG dx) (c3:oe.data= .fields vs) (h1:1 < vs.size) (hn:n<=x) (hz:n<=s.heap.objs.size) (hH:H x=NI) (hfree: ∀ a,s.heap.objs.size<=a->H a=NI)
  (h: ∀ h',eQ n H (ez (env::outer)) s.heap h'->ji n H h' x C dx->Q () { s with heap:=h'}) :
  Ob M A (do setField (.ref x) 1 (<- Ur head (<- frameOf env') .none (Ve L) .none (<- entryPlaceOf L hadNext))) Q E s:=by
 have nx:x ∉ ez (env::outer):=λm=>by
  obtain⟨_,o,ho,hnf⟩:=hl.mem m;rw[hx] at ho;cases ho;exact hnf vs c3
 refine NL (uv hfr hl hf hf' λg so=>?_);refine NL (wpAny_entryPlaceOf λpl hpl=>?_);unfold Ur newFields;refine NL (Pp ?_ (hpl.sizeOk5 _ _ _ _ _));have gx:g.get? x=NG oe:=(so.2.1 x nx).trans hx;generalize hto:({ cls:=VP "traceback",dict:=NI,data:=Data.fields ([head,Oe L,OW,Ve L,OW]++(if pl.isEmpty then NM 6 OW else pl)).toArray}:Obj)=to;have td:to.data= .fields ([head,Oe L,OW,Ve L,OW]++(if pl.isEmpty then NM 6 OW else pl)).toArray:=by rw[<- hto]
 have px:(g.push to).get? x=NG oe:=NT _ gx;have sz:g.objs.size=s.heap.objs.size:=so.1;have ltx:x < g.objs.size:=NY gx;refine TZ px c3 h1 (h _ ?_ ?_)
 . have p1:eQ n H (ez (env::outer)) s.heap (g.push to):=by
    refine⟨λb o e _ m=>NT _ ((so.2.1 b m).trans e),λb o e _=>?_,by rw[O6,sz];exact QV _⟩;obtain⟨sl,e2⟩:=so.2.2 b o e;exact⟨sl,NT _ e2⟩
   exact p1.trans (iw px c3 hn hH nx)
 . have d3:=Sw c3 (·.setIfInBounds 1 (Oe g.objs.size))
   refine⟨_,_,P9 _ px (QH d3),by rw[Obj.cls_mapFields];exact c1,?_,d3,hn,hH,⟨g.objs.size,to,_,Ve L,by simp[h1],Q2 ltx,by rw[sz];exact hz,hfree _ (by rw[sz];exact NS _),?_,td,by simp⟩⟩
   . have:(Rf (·.setIfInBounds 1 (Oe g.objs.size)) oe).dict=oe.dict:=by
      obtain⟨_,_,dt,_⟩:=oe;cases dt<;>rfl
     rw[this];exact c2
   . rw[OY _ _ (Og ltx)];exact Oh _ (QH td)
theorem jO{env':Env}{Q:Unit->NO->Prop}(hfr:A.frames=NG (env::outer))(hl:s.heap.FunFrames base (env::outer))(hf:env.frame=NG L)(hf':env'.frame=NG L)(F:uW n H s.heap x C dx)(hz:n<=s.heap.objs.size)(hfree: ∀ a,s.heap.objs.size<=a->H a=NI)
  (h: ∀ h',eQ n H (ez (env::outer)) s.heap h'->ji n H h' x C dx->Q () { s with heap:=h'}):Ob M A (S6 (.ref x) env') Q E s:=by
 obtain⟨oe,vs,hx,c1,c2,c3,hn,hH,v1 | ⟨T,oT,ts,fl,v1,nT,hnT,hHT,eT,dT,t3⟩⟩:=F
 . unfold S6;simp only[hf'];refine NL (Qr hx c3 v1 ?_);rw[if_neg (by decide)];exact oH hfr hl hf hf' hx c1 c2 c3 (OS.mp v1).1 hn hz hH hfree h
 . unfold S6;simp only[hf'];refine NL (Qr hx c3 v1 ?_);rw[if_pos (show(Oe T !=OW)=true from by simp)];refine NL (Qr eT dT t3 ?_);by_cases fe:(fl == Ve L)=true
   . rw[if_pos fe];exact N2 (h s.heap ⟨λ_ _ e _ _=>e,λ_ o e _=>⟨o.slots,e⟩,NS _⟩ ⟨oe,vs,hx,c1,c2,c3,hn,hH,T,oT,ts,fl,v1,nT,hnT,hHT,eT,dT,t3⟩)
   rw[if_neg fe];refine NL (TZ eT dT (OS.mp t3).1 ?_);have nfT:T ∉ ez (env::outer):=λm=>by
    obtain⟨_,o,ho,hnf⟩:=hl.mem m;rw[eT] at ho;cases ho;exact hnf ts dT
   have p1:eQ n H (ez (env::outer)) s.heap (s.heap.update T (Rf (·.setIfInBounds 3 OW))):=iw eT dT hnT hHT nfT
   have zz:(s.heap.update T (Rf (·.setIfInBounds 3 OW))).objs.size=s.heap.objs.size:=RH ..
   refine oH (s:={ s with heap:=s.heap.update T (Rf (·.setIfInBounds 3 OW))}) hfr (hl.of_keeps λb o hb hnf=>⟨o,(OY _ _ λz=>?_).trans hb,rfl⟩) hf hf' ((OY _ _ nT).trans hx) c1 c2 c3 (OS.mp v1).1 hn (by rw[zz];exact hz) hH (λa ha=>hfree a (by rw[zz] at ha;exact ha)) λh' p f=>h h' (p1.trans p) f
   subst z;rw[eT] at hb;cases hb;exact hnf ts dT
theorem kl{Q:Unit->NO->Prop}{fs:List NQ}(hfs: ∀ b∈fs,∃ o,s.heap.get? b=NG o/\ ∀ vs,o.data≠ .fields vs)(F:uW n H s.heap x C dx)
  (h: ∀ h',eQ n H fs s.heap h'->uW n H h' x C dx->Q () { s with heap:=h'}):Ob M A (So (.ref x) NI) Q E s:=by
 obtain⟨oe,vs,hx,c1,c2,c3,hn,hH,v1 | ⟨T,oT,ts,fl,v1,nT,hnT,hHT,eT,dT,t3⟩⟩:=F
 . unfold So;refine NL (Qr hx c3 v1 ?_);rw[if_neg (by decide)];exact N2 (h s.heap ⟨λ_ _ e _ _=>e,λ_ o e _=>⟨o.slots,e⟩,NS _⟩ ⟨oe,vs,hx,c1,c2,c3,hn,hH,.inl v1⟩)
 . refine wpAny_setFlight_none hx c3 v1 eT dT (OS.mp t3).1 (h _ (iw eT dT hnT hHT λm=>?_) ?_)
   . obtain⟨o,ho,hnf⟩:=hfs T m;rw[eT] at ho;cases ho;exact hnf ts dT
   . have d3:=Sw dT (·.setIfInBounds 3 OW)
     exact⟨oe,vs,(OY _ _ nT).trans hx,c1,c2,c3,hn,hH,.inr ⟨T,_,_,_,v1,nT,hnT,hHT,P9 _ eT (QH d3),d3,Qb (by simpa using(OS.mp t3).1)⟩⟩
theorem xR{Q:Unit->NO->Prop}{fs:List NQ}{fr:Option NQ}(hfs: ∀ b∈fs,∃ o,s.heap.get? b=NG o/\ ∀ vs,o.data≠ .fields vs)(F:ji n H s.heap x C dx)
  (h: ∀ h',eQ n H fs s.heap h'->ji n H h' x C dx->Q () { s with heap:=h'}):Ob M A (So (.ref x) fr) Q E s:=by
 obtain⟨oe,vs,hx,c1,c2,c3,hn,hH,T,oT,ts,fl,v1,nT,hnT,hHT,eT,dT,t3⟩:=F;unfold So;refine NL (Qr hx c3 v1 ?_);rw[if_pos (show(Oe T !=OW)=true from by simp)];have t3':=(OS.mp t3).1;refine TZ eT dT t3' (h _ (iw eT dT hnT hHT λm=>?_) ?_)
 . obtain⟨o,ho,hnf⟩:=hfs T m;rw[eT] at ho;cases ho;exact hnf ts dT
 . have d3:=Sw dT (·.setIfInBounds 3 (fr.elim OW λf=>Ve f))
   exact⟨oe,vs,(OY _ _ nT).trans hx,c1,c2,c3,hn,hH,T,_,_,_,v1,nT,hnT,hHT,P9 _ eT (QH d3),d3,Qb (by simpa using t3')⟩
end
theorem uW.mono{n m:Nat}{H:Hp}{h:OQ}{x C dx:NQ}(F:uW m H h x C dx)(hn:n<=m):uW n H h x C dx:=by
 obtain⟨oe,vs,e1,e2,e3,e4,e5,e6,e7⟩:=F;exact⟨oe,vs,e1,e2,e3,e4,N5 hn e5,e6,e7.imp id λ⟨T,oT,ts,fl,a1,a2,a3,a4⟩=>⟨T,oT,ts,fl,a1,a2,N5 hn a3,a4⟩⟩
theorem ji.mono{n m:Nat}{H:Hp}{h:OQ}{x C dx:NQ}(F:ji m H h x C dx)(hn:n<=m):ji n H h x C dx:=by
 obtain⟨oe,vs,e1,e2,e3,e4,e5,e6,T,oT,ts,fl,a1,a2,a3,a4⟩:=F;exact⟨oe,vs,e1,e2,e3,e4,N5 hn e5,e6,T,oT,ts,fl,a1,a2,N5 hn a3,a4⟩
theorem eQ.un{n:Nat}{H₀ H:Hp}{fs fs' ex:List NQ}{h₀ h h':OQ}(P:eQ n H fs' h h')(u:Un fs ex H₀ H h₀ h)(hn:h₀.objs.size<=n)(h1: ∀ b∈fs',b∈fs\/h₀.objs.size<=b)(h2: ∀ b∈fs,b∈fs'):Un fs ex H₀ H h₀ h':=by
 have lt: ∀{b o},h₀.get? b=NG o->b < n:=λe=>NV (NY e) hn;have nf: ∀{b o},h₀.get? b=NG o->b ∉ fs->b ∉ fs':=λ{b o} e nb hb=>(h1 b hb).elim nb λz=>absurd (NY e) (Qg.mpr z);refine⟨λb o e n' nb hx=>P.keep b o (u.keep b o e n' nb hx) (.inl (lt e)) (nf e nb),λb o e n' hb hx=>?_,u.free,λb o e hx=>?_,u.fW,u.fm,u.gH⟩
 . obtain⟨_,e1⟩:=u.slot b o e n' hb hx;obtain⟨sl',e2⟩:=P.slot b _ e1 (h2 b hb);exact⟨sl',e2⟩
 . obtain⟨o',e1⟩:=u.there b o e hx;by_cases hb:b∈fs'
   . obtain⟨sl,e2⟩:=P.slot b _ e1 hb;exact⟨_,e2⟩
   . exact⟨o',P.keep b o' e1 (.inl (lt e)) hb⟩
theorem eQ.aW{P:Om}{w:OC}{n:Nat}{H:Hp}{fs:List NQ}{h h':OQ}(p:eQ n H fs h h')(free: ∀ b∈fs,H b=NI)(k:fb P w H h):fb P w H h':=λb u e=>by
 refine(k b u e).iO (λd w' hd q=>p.keep d w' q (.inr ?_) λhb=>?_) (λ_ q=>q) λ_ _ q=>q
 . rcases hd with z | z
   . rw[z,e];simp
   . rw[z];simp
 . have:=free d hb;rcases hd with z | z
   . rw[z,e] at this;cases this
   . rw[z] at this;cases this
noncomputable def uS:List NJ:=[.type "ValueError",.type "Exception",.type "BaseException",.type "object"]
def xK(l:List NJ):Bool:=l == (l.filterMap λv=>match v with | .ref a=>NG a | _=>NI).map Oe++uS
theorem lB(self:NJ): ∀(rs:List NQ),refuseLoop self "__setattr__" (rs.map Oe++uS)=pure ()
 | []=>PySem.F.store_ValueError.passes self
 | c::r=>by rw[NR,Qn,refuseLoop_ref];exact lB self r
structure gZ(K:NH)(C:NQ):Prop where
 mro: ∃ cd,SV K C=NG cd/\xK cd.mro=true
 hd:RC K C=true
 ob:O0 K C (.type "object")=NG true
 bx:O0 K C (.type "BaseException")=NG true
 sa:Oc K (.ref C) "__setattr__" =NG (NG (.builtin "object.__setattr__"))
 ga:Oc K (.ref C) "__getattribute__" =NG (NG (.builtin "BaseException.__getattribute__"))
 gt:Oc K (.ref C) "__getattr__" =NG NI
section
variable{prog:Om}{w:OC}{A:OI}{E:NJ->NO->Prop}{s:NO}{K:NH}{x dx C:NQ}{name:Str}{v:NJ}{ox:Obj}{od:Option Obj}{R:Result->NO->Prop}
theorem pH{tk:Tok}(X:K.In s.heap)(I:Qo s.heap x ox C od)(c:gZ K C)(ht:Oc K (.ref C) name=NG NI)
  (h:Ob (Of prog w) A.in1 (UT (.ref x) (.ref C) (.str name tk) name v false)
   (λfin s'=>match fin with | .done f=>R (.ok f) s' | .again c'=>c'.quiet=true/\Si (Of prog w) A c' R s') (λe s'=>R (.error e) s') s) :
  Si (Of prog w) A (.call (.builtin "object.__setattr__") ⟨[.ref x,.str name tk,v],[]⟩) R s:=by
 have SF:=PySem.F.store_object;obtain⟨cd,hc,ho⟩:=c.mro;have isO:SW (Of prog w) s.heap (UN (.ref x) (.type "object")) true:=I.type.andThen (Ql X c.ob);refine R4 SF.slot.plain SF.entry (@Sx (Of prog w) _ _ s "object.__setattr__" "object" "__setattr__" (.ref x) [.str name tk,v] [] _ SF.kind SF.split isO (SF.args (.ref x) (.str name tk) v) ?_);rw[PySem.W.osa_eq,refuse_eq];refine NL (NL (I.type.here (NL (((Sf X hc).andThen .now:SW (Of prog w) s.heap (mroOf (.ref C)) cd.mro).here ?_))));rw[show cd.mro=_ from beq_iff_eq.mp ho,lB];exact N2 (NL (I.type.here (NL ((PL X ht).here (NL (N2 h))))))
theorem ya{vs:Array NJ}{sl:Array (Option NJ)}{Q:Unit->NO->Prop}(X:K.In s.heap)(hx:s.heap.get? x=NG ⟨.ref C,NI,.fields vs,sl⟩)(c:gZ K C)(ht:Oc K (.ref C) name=NG NI)
  (h: ∀ h' tk',h'.get? x=NG ⟨.ref C,NG s.heap.objs.size,.fields vs,sl⟩->h'.Ns1 s.heap.objs.size (λy=>if y=name then NG v else NI)->(∀ b o,b≠x->s.heap.get? b=NG o->h'.get? b=NG o)->h'.objs.size=s.heap.objs.size+1->Q () { s with heap:=h',toks:=tk'}) :
  Ob (Of prog w) A (setAttr (.ref x) name v) Q E s:=by
 have I:Qo s.heap x ⟨.ref C,NI,.fields vs,sl⟩ C NI:=⟨hx,rfl,rfl,trivial⟩
 refine U7 X I c.sa (pH (s:={ s with toks:=s.toks+1}) X I c ht ?_);obtain⟨cd,hc,hd'⟩:=Q3 c.hd;refine NL (N2 (NL (NL (T1 hx (NL (OK (s:={ s with toks:=s.toks+1}) (Sf X hc) ?_))))));rw[hd'];have hx1:(s.heap.push { cls:= .type "dict",data:= .dict #[]}).get? x=NG ⟨.ref C,NI,.fields vs,sl⟩:=NT _ hx;have nxs:x≠s.heap.objs.size:=Og (NY hx);refine NL (wpAny_alloc' (NL (wpAny_update' hx1 ?_)));refine N2 ?_;generalize hg:(s.heap.push { cls:= .type "dict",data:= .dict #[]}).update x _=g;have gd:g.get? s.heap.objs.size=NG { cls:= .type "dict",data:= .dict #[]}:=by
  rw [<- hg];exact (Us _ _ _ _ nxs.symm).trans (Oh _ rfl)
 have gx:g.get? x=NG ⟨.ref C,NG s.heap.objs.size,.fields vs,sl⟩:=by
  rw [<- hg];exact P9 _ hx1 rfl
 have gn:g.Ns1 s.heap.objs.size (λ_=>NI):=U0 ⟨_, #[],_,gd,rfl,(λe he=>absurd he (by simp)),λ_=>rfl⟩;have gk: ∀ b o,b≠x->s.heap.get? b=NG o->g.get? b=NG o:=λb o nb e=>by
  rw [<- hg];exact (Us _ _ _ _ nb).trans (NT _ e)
 have gs:g.objs.size=s.heap.objs.size+1:=by rw [<- hg,RH,O6]
 refine NL (N2 (NL (wpAny_nsSet1 gn λh' hn sb=>?_)));obtain⟨oD,esD,epD,hoD,hdD,hcD⟩:=hn.count (U8 name v W4);refine NL (Vm hoD (by rw[hdD];exact Vn (N5 hcD (by rw[NK,N4,TY];omega))) ?_);exact N2 (h h' _ ((sb.2 x nxs).trans gx) hn (λb o nb e=>(sb.2 b (Og (NY e))).trans (gk b o nb e)) (sb.1.trans gs))
theorem uD{vs:Array NJ}{sl:Array (Option NJ)}{mA:Str->Option NJ}{ns:List Str}{Q:Unit->NO->Prop}(X:K.In s.heap)(hx:s.heap.get? x=NG ⟨.ref C,NG dx,.fields vs,sl⟩)(hn:s.heap.Ns1 dx mA)(c:gZ K C)(ht:Oc K (.ref C) name=NG NI)
  (hw:Sg mA ns) (hsz:ns.length<=NZ)
  (h: ∀ h' tk',h'.Ns1 dx (λy=>if y=name then NG v else mA y)->Td dx s.heap h'->Q () { s with heap:=h',toks:=tk'}) :
  Ob (Of prog w) A (setAttr (.ref x) name v) Q E s:=by
 obtain⟨oD,_,_,eD,_⟩:=id hn;have I:Qo s.heap x ⟨.ref C,NG dx,.fields vs,sl⟩ C (NG oD):=⟨hx,rfl,rfl,eD⟩
 refine U7 X I c.sa (pH (s:={ s with toks:=s.toks+1}) X I c ht ?_);obtain⟨cd,hc,hd'⟩:=Q3 c.hd;refine NL (N2 (NL (NL (T1 hx (NL (OK (s:={ s with toks:=s.toks+1}) (Sf X hc) ?_))))));rw[hd'];refine N2 (a:=NG dx) (NL (N2 (NL (wpAny_nsSet1 (s:={ s with toks:=s.toks+1}) hn λh' hn2 sb=>?_))));obtain⟨oE,esD,epD,hoD,hdD,hcD⟩:=hn2.count (U8 name v hw);refine NL (Vm hoD (by rw[hdD];exact Vn (N5 hcD (by rw[NK];omega))) ?_);exact N2 (h h' _ hn2 sb)
theorem L0{vs:Array NJ}{sl:Array (Option NJ)}{mA:Str->Option NJ}{b:Bool}{Q:NJ->NO->Prop}(X:K.In s.heap)(hx:s.heap.get? x=NG ⟨.ref C,NG dx,.fields vs,sl⟩)(hn:s.heap.Ns1 dx mA)(c:gZ K C)(ht:Oc K (.ref C) name=NG NI)
  (hv:mA name=NG v) (hv':Vg v=true) (h:Q v { s with toks:=s.toks+1}):Ob (Of prog w) A (getAttr (.ref x) name b) Q E s:=by
 obtain⟨oD,eD,lD⟩:=sQ hn;have I:Qo s.heap x ⟨.ref C,NG dx,.fields vs,sl⟩ C (NG oD):=⟨hx,rfl,rfl,eD⟩
 have f:=PySem.W.findObj_own c.hd ht rfl (show TX name oD=NG (NG v) by rw[lD,hv]);unfold getAttr getAttrBy;refine NL (wpAny_mkText (Pm (NL (OK (s:={ s with toks:=s.toks+1}) I.type (NL (OK (s:={ s with toks:=s.toks+1}) (PL X c.ga) ?_))))));show Ob _ _ (if (Vo (Oe C)&&P1 "BaseException.__getattribute__" == P1 "object.__getattribute__")=true then _ else _) _ _ _;rw[if_neg (by rw[show(P1 "BaseException.__getattribute__" == P1 "object.__getattribute__")=false from by decide +kernel,P6];decide)];unfold VF hookBefore;rw[if_pos (show Vo (Oe C)=true from rfl)];refine NL (OK (s:={ s with toks:=s.toks+1}) (PL X c.gt) (NL (UA (Pm ?_))));unfold Vp;rw[if_neg (by cases b<;>decide)];unfold boundAndCalled;rw[Qp.ga.bind];have isB:SW (Of prog w) s.heap (UN (.ref x) (.type "BaseException")) true:=I.type.andThen (Ql X c.bx);refine NL (N2 (Ss ?_));refine R4 Qp.ga.plain TQ (@Sx (Of prog w) _ _ { s with toks:=s.toks+1} "BaseException.__getattribute__" "BaseException" "__getattribute__" (.ref x) [.str name s.toks] [] _ (by decide +kernel) (by decide +kernel) isB (T2 _ _) ?_);unfold To.«object.__getattribute__»;refine NL (N2 (NL (N2 (NL (OK (s:={ s with toks:=s.toks+1}) I.type (NL (OK (s:={ s with toks:=s.toks+1}) (UO X I f) ?_)))))));refine N2 ?_;show Ob _ _ (handedOut v) _ _ _;rw[T3 hv'];exact N2 h
end
def gh(K:NH)(C:NQ):Bool:=match K.lookup C with
 | some ⟨.type "type",_,.cls cd,sl⟩=>(match cd.mro,sl.toList with
  | .ref C'::bm,[_,_,_,_,NG (.builtin n),_]=>C' == C&&n == "ValueError.__new__" && !cd.hasDel&&RI K uS bm
  | _,_=>false)
 | _=>false
theorem v5{K:NH}{h:OQ}{C:NQ}(X:K.In h)(q:gh K C=true): ∃ nm qn N bs bm hdct sn sub ab col dd k0 k1 k2 k3 k5,
  h.get? C=NG (excClassObj nm qn C N bs bm hdct sn sub ab col dd k0 k1 k2 k3 k5 "ValueError.__new__")/\OwnTail h uS bm:=by
 unfold gh at q;split at q
 . rename_i dd cd sl ho;split at q
   . rename_i C' bm k0 k1 k2 k3 n k5 hm hs;simp only[N7,beq_iff_eq,QM] at q;obtain⟨⟨⟨rfl,rfl⟩,z⟩,ht⟩:=q;obtain⟨nm,bs,mro,ns,qn,hdt,sn,sub,ab,col,del⟩:=cd;obtain⟨l⟩:=sl;dsimp only at hm z hs;subst hm z hs;exact⟨nm,qn,ns,bs,bm,hdt,sn,sub,ab,col,dd,k0,k1,k2,k3,k5,X _ _ ho,PySem.W.tail_of_in X ht⟩
   . cases q
 . cases q
section
variable{prog:Om}{w:OC}{A:OI}{E:NJ->NO->Prop}{s:NO}{K:NH}{C fI:NQ}{us:List NJ}
theorem Kd{Q:NJ->NO->Prop}(X:K.In s.heap)(hm:gh K C=true)(hi:Oc K (.ref C) "__init__" =NG (NG (.ref fI)))(hf:VY K (.ref fI)=NG (.type "function"))(hz:us.length<=NZ)
  (h:Ob (Of prog w) (A.under (.builtin "type.__call__" ⟨.ref C::us,[]⟩)) (call (.ref fI) (.ref (s.heap.objs.size+1)::us)) (λr s'=>r= .none/\Q (.ref (s.heap.objs.size+1)) s') E
   { s with heap:=(s.heap.push { cls:= .type "tuple",data:= .seq us.toArray}).push { cls:= .ref C,data:= .fields #[.ref s.heap.objs.size,.none,.none,.none,.bool false,.none]}}) :
  Ob (Of prog w) A (call (.ref C) us) Q E s:=by
 obtain⟨nm,qn,N,bs,bm,hdct,sn,sub,ab,col,dd,k0,k1,k2,k3,k5,hC,T⟩:=v5 X hm;have F:=PySem.F.excBase_ValueError;have f1:=tc_lookup;have f2:=tc_bind (.ref C);obtain⟨hh,g,d,t,os⟩:=s;have hT:(⟨hh,g,d,t,os⟩:NO).TypeIs (.ref C) "type" :=⟨_,hC,rfl⟩
 refine Ss (codeAny_of_tree ?_);show Ob _ _ (callAny (.ref C) _) _ _ _
 repeat (any_goals (first | assumption | with_reducible refine PM hC ?_ | wp_step))
 refine⟨rfl,codeAny_call_builtin_at (UP _ (by decide +kernel)) entry_typeCall (wpAny_check_type_call_sub hC ?_)⟩
 repeat (first | with_reducible refine PM hC ?_ | with_reducible refine wpAny_madeBy_exc hC ?_ | wp_step)
 refine codeAny_call_builtin_code (UP _ F.quiet) (wpAny_check_new_subT F T hC (codeAny_exc_new_subT F T hC ?_ hz));show Ob _ _ _ _ _ ⟨(hh.push { cls:= .type "tuple",data:= .seq us.toArray}).push { cls:= .ref C,data:= .fields #[.ref hh.objs.size,.none,.none,.none,.bool false,.none]},g,d,t,os⟩;dsimp only at h;generalize hg':(hh.push { cls:= .type "tuple",data:= .seq us.toArray}).push { cls:= .ref C,data:= .fields #[.ref hh.objs.size,.none,.none,.none,.bool false,.none]}=h2 at h ⊢;have k2: ∀ b o,hh.get? b=NG o->h2.get? b=NG o:=λb o e=>by rw[<- hg'];exact NT _ (NT _ e)
 have x2:h2.get? (hh.objs.size+1)=NG { cls:= .ref C,data:= .fields #[.ref hh.objs.size,.none,.none,.none,.bool false,.none]}:=by
  rw[<- hg'];exact U9 (by rw[O6]) rfl
 have X2:K.In h2:=X.keeps k2;have hC2:=k2 _ _ hC;have cc:(Oe C::bm).contains (.ref C)=true:=by simp
 unfold UN
 repeat (first | with_reducible refine PM x2 ?_ | (with_reducible refine Ut hC2 ?_;rw[cc]) | wp_step)
 show Ob _ _ (typeLookup (.ref C) _) _ _ _;refine(PL X2 hi).at (Pm (NL ((PySem.W.bind_fn X2 _ hf).at ?_)));refine NL (Oj h (λr s' ⟨e,q⟩=>?_) λ_ _ z=>z);subst e
 wp_walk
 exact q
end
def XO(X:Cx)(H:Hp)(h:OQ)(x C:NQ)(vs:Array NJ)(fs:List (Str × V)):Prop:= ∃ sl,(fs=[]/\h.get? x=NG ⟨.ref C,NI,.fields vs,sl⟩) \/
 ∃ dx mA,h.get? x=NG ⟨.ref C,NG dx,.fields vs,sl⟩/\h.Ns1 dx mA/\(∀ f,eY (fs.lookup f) (mA f))/\Sg mA (fs.map (·.1))/\X.s₀.heap.objs.size<=dx/\dx≠x/\H dx=NI/\dx≠X.env.locals/\dx ∉ X.fs/\ ∀ y c,X.env.cells.lookup y=NG c->c≠dx
theorem oq{fs:List (Str × V)}{mA:Str->Option NJ}{f:Str}{y:V}{u:NJ}(r: ∀ g,eY (fs.lookup g) (mA g))(ry:RelV y u)(g:Str):eY ((dQ f y fs).lookup g) (if g=f then NG u else mA g):=by
 rw[iX];by_cases q:g=f
 . rw[if_pos q,if_pos q];exact ry
 . rw[if_neg q,if_neg q];exact r g
theorem i7{fs:List (Str × V)}{mA:Str->Option NJ}{f:Str}{y:V}{u:NJ}(wi:Sg mA (fs.map (·.1))):Sg (λg=>if g=f then NG u else mA g) ((dQ f y fs).map (·.1)):=λg hg=>by
 by_cases q:g=f
 . rw[q];exact(iD f y fs).1
 . refine(iD f y fs).2 g (wi g λz=>hg ?_);show(if g=f then NG u else mA g)=NI;rw[if_neg q];exact z
section
variable{X:Cx}{σ :St}{H:Hp}{s:NO}{x C:NQ}{vs:Array NJ}{fs:List (Str × V)}
def Kc(X:Cx)(st:Pn)(f:Str)(j:Nat):Prop:= ∃ xs xf p1 p2 p3 p4,st= .Assign [.Attribute (.Name xs p1) f p2] (.Name xf p3) p4/\PE X (.Name xs p1) (wU 0)/\PE X (.Name xf p3) (wU j)/\Pt (.Name xf p3) (NG (.Attribute (.Name xs p1) f p2)) p4.line X.env=pure false/\Oc X.K (.ref C) f=NG NI
theorem D4{st:Pn}{f:Str}{j:Nat}{v:V}(I:Inv X [] σ H s)(hX:x∈X.ex)(hH:H x=NI)(ne0:X.pn=[])(hF:x ∉ X.fs)(c:gZ X.K C)(O:XO X H s.heap x C vs fs)(hl:fs.length < 1000)
  (w:Kc (C:=C) X st f j) (h0: σ[0]?=NG (NG (.ref x))) (hv: σ[j]?=NG (NG v)) :
  Ob (Of X.prog X.w) X.A (exec st X.env) (λfl s'=>fl= .next/\Inv X [] σ H s'/\XO X H s'.heap x C vs (dQ f v fs)) X.xe s:=by
 obtain⟨xs,xf,p1,p2,p3,p4,rfl,e1,e2,sw,na⟩:=w;have xL:x≠X.env.locals:=(I.ok.E7 x hX).1;have xC: ∀ y c,X.env.cells.lookup y=NG c->c≠x:=(I.ok.E7 x hX).2;obtain⟨sl,⟨rfl,hx⟩ | ⟨dx,mA,hx,ns,re,wi,ndx,nex,hdx,dL,dF,dC⟩⟩:=O
 . have I1:Inv X [(x,⟨.ref C,NI,.fields vs,sl⟩)] σ H s:=I.cP λp hp=>by
    rw[Od.mp hp];exact⟨hx,hH,xL,hF,λv z=>Vq z⟩
   refine RP (fB (e2 _ s σ H (λy H1=>y=v/\H1=H) I1 ⟨v,hv,rfl,rfl⟩) λu s1 ⟨y,H1,J1,ry,q1⟩=>?_) sw;obtain⟨rfl,rfl⟩:=q1;refine fB (e1 _ s1 σ H1 (λy H2=>y= .ref x/\H2=H1) J1 ⟨_,h0,rfl,rfl⟩) λov s2 ⟨y2,H2,J2,ry2,q2⟩=>?_;obtain⟨rfl,rfl⟩:=q2;obtain rfl:ov=Oe x:=ry2;have hx2:=(J2.pin _ (N9 _ N1)).1;refine ya J2.qA hx2 c na λh' tk' a1 a2 a3 a4=>⟨rfl,?_,sl,.inr ⟨s2.heap.objs.size,_,a1,a2,oq (fs:=[]) (mA:=λ_=>NI) (λ_=>trivial) ry,i7 (fs:=[]) (mA:=λ_=>NI) (λy z=>absurd rfl z),J2.sz,Q2 (NY hx2),J2.aW.fresh (NS _),Q2 J2.lt,J2.Ar (NS _),λy c e=>Og (let ⟨_,z⟩:=J2.cell y c e;z.lt)⟩⟩
   have J3:Inv X [] σ H2 s2:=J2.cP λp hp=>absurd hp (by simp);have yo: ∀ b u,H2 b=NG u->b≠x:=λb u e z=>by rw[z,hH] at e;cases e
   refine J3.step (ch:=[x]) (g':=s2.gens) (d':=s2.drawn) (λb hb=>?_) (λb o _ _ hc e _=>a3 b o (λz=>hc (by simp[z])) e) (λb o _ _ hc e _=>⟨o.slots,a3 b o (λz=>hc (by simp[z])) e⟩) (λ_ _ _ _ n=>n) (λb o hc e=>⟨o,a3 b o (λz=>hc (by simp[z])) e⟩)
    (λ_ _ e=>e) (λ_ _ _ e=>e) (λb ps e=>⟨#[],by rw[e];simp⟩) (λm hm=>?_) (λb u e=>?_) J3.bare
   . rw[Od.mp hb];exact⟨.inl hX,xL,xC,λp hp=>by rw[ne0] at hp;exact absurd hp (by simp)⟩
   . obtain⟨o,es,ep,ho,r⟩:=hm;exact⟨o,es,ep,a3 _ o (PX xL) ho,r⟩
   . refine(J3.aW b u e).iO (λd w' hd q=>a3 d w' ?_ q) (λ_ q=>q) λ_ _ q=>q;rcases hd with z | z
     . rw[z];exact yo b u e
     . exact yo d _ z
 . obtain⟨od,es,ep,ed,dd,dr⟩:=id ns;have I1:Inv X [(x,⟨.ref C,NG dx,.fields vs,sl⟩),(dx,od)] σ H s:=I.cP λp hp=>by
    rcases Ot.mp hp with z | z
    . rw[z];exact⟨hx,hH,xL,hF,λv z=>Vq z⟩
    . rw[Od.mp z];exact⟨ed,hdx,dL,dF,λv z=>by dsimp only at z;rw[dd] at z;cases z⟩
   refine RP (fB (e2 _ s σ H (λy H1=>y=v/\H1=H) I1 ⟨v,hv,rfl,rfl⟩) λu s1 ⟨y,H1,J1,ry,q1⟩=>?_) sw;obtain⟨rfl,rfl⟩:=q1;refine fB (e1 _ s1 σ H1 (λy H2=>y= .ref x/\H2=H1) J1 ⟨_,h0,rfl,rfl⟩) λov s2 ⟨y2,H2,J2,ry2,q2⟩=>?_;obtain⟨rfl,rfl⟩:=q2;obtain rfl:ov=Oe x:=ry2;have hx2:=(J2.pin _ (N9 _ N1)).1;have hd2:=(J2.pin _ (N9 _ (NW _ N1))).1;refine uD J2.qA hx2 ⟨od,es,ep,hd2,dd,dr⟩ c na wi (by rw[NU,TY];omega) λh' tk' a2 sb=>⟨rfl,?_,sl,.inr ⟨dx,_,(sb.2 x (PX nex)).trans hx2,a2,oq re ry,i7 wi,ndx,nex,hdx,dL,dF,dC⟩⟩
   have J3:Inv X [] σ H2 s2:=J2.cP λp hp=>absurd hp (by simp);have a3: ∀ b o,b≠dx->s2.heap.get? b=NG o->h'.get? b=NG o:=λb o nb e=>(sb.2 b nb).trans e;have yo: ∀ b u,H2 b=NG u->b≠dx:=λb u e z=>by rw[z,hdx] at e;cases e
   refine J3.step (ch:=[dx]) (g':=s2.gens) (d':=s2.drawn) (λb hb=>?_) (λb o _ _ hc e _=>a3 b o (λz=>hc (by simp[z])) e) (λb o _ _ hc e _=>⟨o.slots,a3 b o (λz=>hc (by simp[z])) e⟩) (λ_ _ _ _ n=>n) (λb o hc e=>⟨o,a3 b o (λz=>hc (by simp[z])) e⟩)
    (λ_ _ e=>e) (λ_ _ _ e=>e) (λb ps e=>⟨#[],by rw[e];simp⟩) (λm hm=>?_) (λb u e=>?_) J3.bare
   . rw[Od.mp hb];exact⟨.inr ndx,dL,dC,λp hp=>by rw[ne0] at hp;exact absurd hp (by simp)⟩
   . obtain⟨o,es,ep,ho,r⟩:=hm;exact⟨o,es,ep,a3 _ o (PX dL) ho,r⟩
   . refine(J3.aW b u e).iO (λd w' hd q=>a3 d w' ?_ q) (λ_ q=>q) λ_ _ q=>q;rcases hd with z | z
     . rw[z];exact yo b u e
     . exact yo d _ z
theorem yN{sts:List Pn}{gs:List (Str × Nat)}(hX:x∈X.ex)(hH:H x=NI)(hp:X.pn=[])(hF:x ∉ X.fs)(c:gZ X.K C)(h0: σ[0]?=NG (NG (.ref x)))(pr:Pd (λst (g:Str × Nat)=>Kc (C:=C) X st g.1 g.2) sts gs) :
  ∀{ws:List V}{s:NO}{fs:List (Str × V)},Inv X [] σ H s->XO X H s.heap x C vs fs->fs.length+gs.length < 1000->Pd (λ(g:Str × Nat) w=> σ[g.2]?=NG (NG w)) gs ws ->
  Ob (Of X.prog X.w) X.A (execs sts X.env) (λfl s'=>fl= .next/\Inv X [] σ H s'/\XO X H s'.heap x C vs ((gs.zip ws).foldl (λa q=>dQ q.1.1 q.2 a) fs)) X.xe s:=by
 induction pr with
 | nil=>intro ws s fs I O _ _;exact Rj ⟨rfl,I,O⟩
 | cons w pr ih =>
  intro ws s fs I O hl pw
  cases pw with
  | cons hv pw =>
   refine S1 (fB (D4 I hX hH hp hF c O (by simp only[NK] at hl;omega) w h0 hv) λfl s' ⟨e,I',O'⟩=>?_)
   subst e
   exact ih I' O' (UL (Nat.add_le_add_right (je _ _ fs) _) (by simp only[NK] at hl;omega)) pw
end
abbrev GY(P:Om)(w:OC)(K:NH)(mg:Str->Option NJ)(base:OQ)(N:List Str)(qual:Str)(scope:Q5)(f:NQ)(cd:NJ)(A:OI)(outer:List Env)(s:NO)(H:Hp)(x:NQ):Cx :=
 { (cJ (λ_ _ _ _ _ _=>False) P w K mg base N qual scope f cd A outer s H (λ_ _ _=>False)).c8 with ex:=[x]}
theorem o7{f:Str}{v:V}: ∀{fs:List (Str × V)},f ∉ fs.map (·.1)->dQ f v fs=fs++[(f,v)]
 | [],_=>rfl
 | (g,y)::r,h=>by
  rw[NR,Ot,not_or] at h;rw[show dQ f v ((g,y)::r)=(if g=f then(g,v)::r else(g,y)::dQ f v r) from rfl,if_neg (λz=>h.1 z.symm),o7 h.2];rfl
theorem pO: ∀{gs:List (Str × Nat)}{ws:List V}{fs:List (Str × V)},(fs.map (·.1)++gs.map (·.1)).Nodup->gs.length=ws.length->(gs.zip ws).foldl (λa q=>dQ q.1.1 q.2 a) fs=fs++(gs.map (·.1)).zip ws
 | [],ws,fs,_,_=>by simp
 | g::gs,[],fs,_,z=>nomatch z
 | g::gs,v::ws,fs,n,z=>by
  rw[NR] at n;have n1:g.1 ∉ fs.map (·.1):=λm=>(List.nodup_append.mp n).2.2 _ m _ N1 rfl
  rw[List.zip_cons_cons,Rm,o7 n1,pO (by simpa using n) (WI z)];simp
section
variable{P:Om}{w:OC}{K:NH}{mg:Str->Option NJ}{base:OQ}
theorem Jx{qual:Str}{st:Pn}{f x C:NQ}{fd:P5}{N ps:List Str}{gs:List (Str × Nat)}{A:OI}{outer:List Env}{s:NO}{H:Hp}{us:List NJ}{ws:List V}{av:Array NJ}{sl:Array (Option NJ)}
  (F:mP K "__init__" qual st f fd) (S:br N ps (ae st)) (c:gZ K C) (hdp:A.depth < RD) (hhd:A.handled=NI) (e0:jK P w K mg base A outer s H)
  (hb: ∀(kV doc pm:NJ)(an:Option NQ)(cdv ct:NJ)(us:List NJ),us.length=ps.length->Pw (OA "__init__" qual (aS st) (ay st) (ae st) .none kV doc pm an cdv ct) ⟨us,[]⟩=pure (ps.zip us))
  (hs: ∀ cdv,Pd (λst' (g:Str × Nat)=>Kc (C:=C) (GY P w K mg base N qual (ae st) f cdv A outer s H x) st' g.1 g.2) (ay st) gs) (hg:gs.length < 1000) (g0:gs≠[]) (nd:(gs.map (·.1)).Nodup)
  (hl:(ws.length+1)=ps.length) (r:Vals ws us) (hx:s.heap.get? x=NG ⟨.ref C,NI,.fields av,sl⟩) (hH:H x=NI) (hbx:base.get? x=NI) (pw:Pd (λ(g:Str × Nat) v=>(start N (.ref x::ws))[g.2]?=NG (NG v)) gs ws) :
  Si (Of P w) A (.call (.ref f) ⟨.ref x::us,[]⟩) (λrr s'=> ∃ dx mA sl',rr= .ok (.ret .none)/\s'.os=s.os/\Q1 s'.gens/\Un (ez outer) [x] H H s.heap s'.heap/\fb P w H s'.heap /\
   s'.heap.get? x=NG ⟨.ref C,NG dx,.fields av,sl'⟩/\s'.heap.Ns1 dx mA/\(∀ f,eY (((gs.map (·.1)).zip ws).lookup f) (mA f))/\s.heap.objs.size<=dx/\dx≠x/\H dx=NI) s:=by
 obtain⟨oc,od,kV,doc,pm,an,cdv,ct,osl,rfl,lk,hcd⟩:=F.ex;have KX:K.In s.heap:=e0.mod.HJ.keeps λb o e=>(e0.bs b o e).1;have lim:s.heap.NoLimit:=e0.mod.nolimit.keeps λb o e=>(e0.bs b o e).1;have vl:(V.ref x::ws).length=ps.length:=hl;have rv:Vals (V.ref x::ws) (Oe x::us):= .cons rfl r;have ul:(Oe x::us).length=ps.length:=by rw[<- rv.length];exact vl
 have hkind: ∀ y∈ps.zip (Oe x::us),(ae st).names.lookup y.1=NG .local\/((ae st).names.lookup y.1=NG .cell/\((P4 (s.heap.objs.size+1) (ae st).names []).lookup y.1).isSome=true):=λ⟨n,v⟩ hy=>by
  rcases S.par n (R7 hy).1 with q | q
  . exact .inl q
  . exact .inr ⟨q,Qt _ _ _ (.inl q)⟩
 have hbb:SJ s (OA "__init__" qual (aS st) (ay st) (ae st) .none kV doc pm an cdv ct) ⟨.ref x::us,[]⟩ (ps.zip (.ref x::us)):= .of_eq (hb kV doc pm an cdv ct _ ul);refine TM hdp (KX _ _ lk) rfl S.co S.gen rfl (UI KX hcd) (hbb _ _ _ _ ?_);refine Su S.kind hkind λenv he s1 ic=>?_;subst he;refine⟨lim.keeps ic.toInCall.keep,codeAny_func ?_⟩;have I0:Inv (cJ (λ_ _ _ _ _ _=>False) P w K mg base N qual (ae st) f cdv A outer s H (λ_ _ _=>False)).c8 [] (start N (.ref x::ws)) H s1:=(lr S hhd e0 vl rv ic).a0 _;have ltx:x < s.heap.objs.size:=NY hx;have xfs:x ∉ ez outer:=λz=>by
  obtain⟨_,o,ho,hnf⟩:=e0.eV.mem z;rw[hx] at ho;cases ho;exact hnf _ rfl
 have ok:(GY P w K mg base N qual (ae st) f cdv A outer s H x).Ok:=by
  have o:=I0.ok;refine⟨o.mod,o.kind,o.glob,o.blt,o.above,o.inj,o.has,o.yk,o.hd,o.frames,o.Cy,λb hb=>?_,o.bs,o.rn,λb o' e hb=>?_,λb hb=>?_,o.eV,o.uJ⟩
  . rw[Od.mp hb];refine⟨Og ltx,λy c' e z=>?_⟩;have:=o.yk y c' rfl e;rw[z] at this;exact absurd ltx (Qg.mpr this)
  . have e':base.get? b=NG o':=e;rw[Od.mp hb,hbx] at e';cases e'
  . rw[Od.mp hb];exact xfs
 have b0:=I0.base;have nn: ∀ b:NQ,b ∉ (cJ (λ_ _ _ _ _ _=>False) P w K mg base N qual (ae st) f cdv A outer s H (λ_ _ _=>False)).c8.ex:=λb z=>absurd (show b∈([]:List NQ) from z) (by simp);have I:Inv (GY P w K mg base N qual (ae st) f cdv A outer s H x) [] (start N (.ref x::ws)) H s1 :=
  ⟨ok,I0.os,I0.bare,⟨λb o e n h1 _=>b0.keep b o e n h1 (nn b),λb o e n h1 _=>b0.slot b o e n h1 (nn b),λb o e n _=>b0.free b o e n (nn b),λb o e _=>b0.there b o e (nn b),b0.fW,b0.fm,b0.gH⟩,I0.loc,I0.cell,I0.free,I0.cW,I0.pin,I0.aW,I0.len⟩
 have hx1:s1.heap.get? x=NG ⟨.ref C,NI,.fields av,sl⟩:=ic.toInCall.keep x _ hx;refine Oj (yN (X:=GY P w K mg base N qual (ae st) f cdv A outer s H x) N1 hH rfl xfs c rfl (hs cdv) I ⟨sl,.inl ⟨rfl,hx1⟩⟩ (by simpa using hg) pw) (λfl s' ⟨e,J,O⟩=>?_) λe s' z=>z.elim;subst e;have jb:=J.base;rw[pO (by simpa using nd) (Q9 pw),Oo] at O;obtain⟨sl',⟨z,_⟩ | ⟨dx,mA,q1,q2,q3,_,q5,q6,q7,_⟩⟩:=O
 . exfalso;cases pw with
   | nil=>exact g0 rfl
   | cons _ _=>nomatch z
 . exact⟨dx,mA,sl',rfl,J.os,J.bare,jb,J.aW,q1,q2,q3,q5,q6,q7⟩
end
abbrev Ma(P:Om)(w:OC)(ch:List NQ):ym:=λouter H s E e s'=> ∃ x C dx H',e= .ref x/\s'.os=s.os/\Q1 s'.gens/\Un (ez outer) ch H H' s.heap s'.heap/\fb P w H' s'.heap/\uW s.heap.objs.size H' s'.heap x C dx/\E (.ref C) (NG dx) H'
abbrev gz(P:Om)(w:OC):ym:=Ma P w []
theorem Ip{P:Om}{w:OC}{X:Cx}:Passes (gz P w) X E0:=λ_ _ _ _ _ _ _ ⟨_,_,_,_,_,_,_,_,_,_,z⟩=>z.elim
def dY(X:Cx)(E:XK):Prop:= ∀(pins:List (NQ × Obj))(σ :St)(H:Hp)(s:NO)(e:NJ)(s':NO)(ch:List NQ),Inv X pins σ H s->(∀ b∈ch,(b∈X.ex\/X.s₀.heap.objs.size<=b)/\b≠X.env.locals/\(∀ x c,X.env.cells.lookup x=NG c->c≠b)/\ ∀ p∈X.pn++pins,p.1≠b) ->
 Ma X.prog X.w ch X.stack H s E e s'->X.xe e s'
theorem dY.pass{X:Cx}{E:XK}(p:dY X E):Passes (gz X.prog X.w) X E:=λpins σ H s e s' I h=>p pins σ H s e s' [] I (λb z=>absurd z (by simp)) h
theorem uW.sz{n:Nat}{H:Hp}{h:OQ}{x C dx:NQ}(F:uW n H h x C dx):n<=h.objs.size:=let ⟨_,_,e1,_,_,_,e5,_⟩:=F;N5 e5 (Sh (NY e1))
theorem vU{P:Om}{w:OC}{K:NH}{mg:Str->Option NJ}{base:OQ}{N:List Str}{qual:Str}{scope:Q5}{f:NQ}{cd:NJ}{A:OI}{outer:List Env}{s₀ :NO}{H₀ :Hp}{E:XK} :
  dY (cJ (gz P w) P w K mg base N qual scope f cd A outer s₀ H₀ E) E:=by
 rintro pins σ H s e s' ch I hch ⟨x,C,dx,H',rfl,os,bare,un,aW,F,hE⟩;have J:Inv (cJ (gz P w) P w K mg base N qual scope f cd A outer s₀ H₀ E) pins σ H' s':=I.lN os un aW bare hch;have hn:s₀.heap.objs.size<=s.heap.objs.size:=I.sz;have hfr:(A.deeper (QU qual scope s₀.heap.objs.size f cd)).frames=NG (QU qual scope s₀.heap.objs.size f cd::outer):=J.ok.frames;have hl:s'.heap.FunFrames base (QU qual scope s₀.heap.objs.size f cd::outer):=J.stack;show Ob _ _ (leaving _ _) _ _ s';unfold leaving;refine NL (jO hfr hl rfl rfl (F.mono hn) J.sz (λa ha=>J.aW.fresh ha) λh1 p1 F1=>?_);refine kl (s:={ s' with heap:=h1}) (fs:=ez (QU qual scope s₀.heap.objs.size f cd::outer)) (λb hb=>?_) F1.Lq λh2 p2 F2=>?_
 . obtain⟨_,o,ho,hnf⟩:=hl.mem hb;obtain⟨sl,e⟩:=p1.slot b o ho hb;exact⟨_,e,hnf⟩
 have p:=p1.trans p2;refine⟨x,C,dx,H',rfl,J.os,J.bare,p.un J.base (NS _) (λb hb=>?_) λb hb=>NW _ hb,p.aW J.hZ J.aW,F2,hE⟩;rcases Ot.mp (show b∈s₀.heap.objs.size::ez outer from hb) with z | z
 . exact .inr (Te z.symm)
 . exact .inl z
theorem mP.G6{P:Om}{w:OC}{K:NH}{mg:Str->Option NJ}{base:OQ}{x qual:Str}{st:Pn}{f:NQ}{fd:P5}{N ps:List Str}{k:Nat}{sp:Sp}(F:mP K x qual st f fd)(S:br N ps (ae st))(len: ∀ vs H Q E,sp vs H Q E->vs.length=ps.length)
  (hbody: ∀(cdv:NJ)(A:OI)(outer:List Env)(s:NO)(H:Hp)(vs:List V)(Q:VK)(E:XK),bZ k (A.deeper (QU qual (ae st) s.heap.objs.size f cdv))->sp vs H Q E ->
   ∃ t,kO (cJ (gz P w) P w K mg base N qual (ae st) f cdv A outer s H E) (ay st) t/\t { nx:=λ_ H'=>Q .non H',rt:=Q} (start N vs) H):fV P w K mg base (gz P w) (k+1) f fd ps sp:=by
 obtain⟨oc,od,kV,doc,pm,an,cdv,ct,osl,rfl,lk,hcd⟩:=F.ex;exact B9 lk hcd S len λA outer s H vs Q E hr hsp=>hbody cdv A outer s H vs Q E hr hsp
theorem mP.Np{P:Om}{w:OC}{K:NH}{mg:Str->Option NJ}{base:OQ}{x qual:Str}{st:Pn}{f:NQ}{fd:P5}{N ps:List Str}{k:Nat}{sp:Sp}(F:mP K x qual st f fd)(S:br N ps (ae st))(len: ∀ vs H Q E,sp vs H Q E->vs.length=ps.length)
  (hbody: ∀(cdv:NJ)(A:OI)(outer:List Env)(s:NO)(H:Hp)(vs:List V)(Q:VK)(E:XK),bZ k (A.deeper (QU qual (ae st) s.heap.objs.size f cdv))->sp vs H Q E ->
   ∃ t,kO (cJ (gz P w) P w K mg base N qual (ae st) f cdv A outer s H E).c8 (ay st) t/\t { nx:=λ_ H'=>Q .non H',rt:=Q} (start N vs) H):fV P w K mg base (gz P w) (k+1) f fd ps sp :=
 F.G6 S len λcdv A outer s H vs Q E hr h=>let ⟨t,q,z⟩:=hbody cdv A outer s H vs Q E hr h;⟨t,q.c8,z⟩
structure G4(P:Om)(w:OC)(K:NH)(mg:Str->Option NJ)(xn:Str)(C:NQ)(names:List Str):Prop where
 cl:gZ K C
 Mo:gh K C=true
 kp:OZ K (.ref C)=true
 gl:mg xn=NG (.ref C)
 na: ∀ f∈names,Oc K (.ref C) f=NG NI
 init: ∃(qual:Str)(st:Pn)(f:NQ)(fd:P5)(N ps:List Str),mP K "__init__" qual st f fd/\br N ps (ae st)/\Oc K (.ref C) "__init__" =NG (NG (.ref f))/\VY K (.ref f)=NG (.type "function") /\
  (∀(kV doc pm:NJ)(an:Option NQ)(cdv ct:NJ)(us:List NJ),us.length=ps.length->Pw (OA "__init__" qual (aS st) (ay st) (ae st) .none kV doc pm an cdv ct) ⟨us,[]⟩=pure (ps.zip us)) /\
  names.length+1=ps.length/\ ∀ base cdv A outer s H x,Pd (λst' (g:Str × Nat)=>Kc (C:=C) (GY P w K mg base N qual (ae st) f cdv A outer s H x) st' g.1 g.2) (ay st) (names.zipIdx 1)
 n0:names≠[]
 nd:names.Nodup
 nl:names.length < 1000
theorem xB{N:List Str}{vs:List V}{i:Nat}{v:V}(h:vs[i]?=NG v):(start N vs)[i]?=NG (NG v):=by
 unfold start;rw[N3 (by simpa using(NN.mp h).1),OD,h];rfl
theorem pA{N:List Str}{x:V}: ∀{names:List Str}{pre ws:List V},names.length=ws.length->Pd (λ(g:Str × Nat) v=>(start N (x::(pre++ws)))[g.2]?=NG (NG v)) (names.zipIdx (pre.length+1)) ws
 | [],pre,[],_=> .nil
 | [],pre,_::_,h=>nomatch h
 | _::_,pre,[],h=>nomatch h
 | n::r,pre,v::ws,h=>by
  rw[List.zipIdx_cons];refine .cons (xB (by simp)) ?_;have:=pA (N:=N) (x:=x) (names:=r) (pre:=pre++[v]) (ws:=ws) (WI h);simpa using this
section
variable{X:Cx}{E:XK}{xn:Str}{C:NQ}{names:List Str}{p pos:Pos}{e:Ou}{es:List Ou}{t:TA}
theorem A9{pins:List (NQ × Obj)}{σ :St}{H:Hp}{s:NO}{us:List NJ}{vs:List V}{Q:NJ->NO->Prop}{E':NJ->NO->Prop}(M:G4 X.prog X.w X.K X.mg xn C names)(hd:X.A.depth+5 < RD)(hh:X.A.handled=NI)(I:Inv X pins σ H s)(r:Vals vs us)(hl:vs.length=names.length)
  (h: ∀ x dx od H' s',H dx=NI->H'=upd H dx (.dw od (.xd (names.zip vs)))->s'.os=s.os->Q1 s'.gens->Un (ez X.stack) [] H H' s.heap s'.heap->fb X.prog X.w H' s'.heap->uW s.heap.objs.size H' s'.heap x C dx->(∃ od av sl,s'.heap.get? x=NG ⟨.ref C,od,.fields av,sl⟩/\av[1]?=NG .none)->Q (.ref x) s') :
  Ob (Of X.prog X.w) X.A (call (.ref C) us) Q E' s:=by
 obtain⟨qual,st,f,fd,N,ps,F,S,fi,ty,hb,hps,hs⟩:=M.init;have zl:us.length<=NZ:=by rw[<- r.length,hl,TY];have:=M.nl;omega
 refine Kd I.qA M.Mo fi ty zl ?_;generalize hg:(s.heap.push { cls:= .type "tuple",data:= .seq us.toArray}).push { cls:= .ref C,data:= .fields #[.ref s.heap.objs.size,.none,.none,.none,.bool false,.none]}=g;have k2: ∀ b o,s.heap.get? b=NG o->g.get? b=NG o:=λb o e=>by rw [<- hg];exact NT _ (NT _ e)
 have gx:g.get? (s.heap.objs.size+1)=NG ⟨.ref C,NI,.fields #[.ref s.heap.objs.size,.none,.none,.none,.bool false,.none], #[]⟩:=by
  rw [<- hg];exact U9 (by rw [O6]) rfl
 have gs:g.objs.size=s.heap.objs.size+2:=by rw [<- hg,O6,O6]
 have I2:Inv X pins σ H { s with heap:=g}:=I.kept (h':=g) (t':=s.toks) k2;have hx0:H (s.heap.objs.size+1)=NI:=I.aW.fresh (QV _);have bx:X.base.get? (s.heap.objs.size+1)=NI:=by
  cases q:X.base.get? (s.heap.objs.size+1) with
  | none=>rfl
  | some o=>exact absurd (NY (I.bk _ _ q)) (Qg.mpr (QV _))
 refine Ss (Tg (Jx (gs:=names.zipIdx 1) (ws:=vs) (us:=us) (s:={ s with heap:=g}) F S M.cl (by rw[qE];omega) hh (I2.iC.make C us []) hb (λcdv=>hs X.base cdv _ _ _ _ _) (by rw[List.length_zipIdx];exact M.nl) (λz=>M.n0 (by simpa using z)) (by rw[Uu];exact M.nd) (by rw[hl];exact hps) r gx hx0 bx (pA (pre:=[]) hl.symm)) λrr s' hq=>?_);obtain⟨dx,mA,sl',rfl,os,bare,un,aW,ex,nsd,rel,ld,ned,hdx⟩:=hq;obtain⟨od,es',ep',eo,dr⟩:=id nsd;refine⟨rfl,h _ dx od _ s' hdx rfl os bare ⟨λb o e n nb _=>un.keep b o (k2 b o e) n nb ?_,λb o e n hb _=>un.slot b o (k2 b o e) n hb ?_,λb o e n _=>?_,λb o e _=>un.there b o (k2 b o e) ?_,λb xs q=>?_,λb o u q=>?_,λb ps' q=>?_⟩ (λb u q=>?_) ?_ ⟨_,_,_,ex,rfl⟩⟩
 . exact λz=>absurd (NY e) (by rw[Od.mp z];exact Qg.mpr (QV _))
 . exact λz=>absurd (NY e) (by rw[Od.mp z];exact Qg.mpr (QV _))
 . rw[aq (Og (NV (NY (k2 b o e)) ld))];exact n
 . exact λz=>absurd (NY e) (by rw[Od.mp z];exact Qg.mpr (QV _))
 . rw[aq (ao q hdx)];exact q
 . rw[aq (ao q hdx)];exact q
 . exact⟨#[],by rw[aq (ao q hdx),q];simp⟩
 . by_cases z:b=dx
   . subst z;rw[aT] at q;cases q;refine⟨eo,mA,nsd,?_⟩;rw[Uu] at rel;exact rel
   . rw[aq z] at q;exact(aW b u q).iO (λ_ _ _ q'=>q') (λc q'=>by rw[aq (ao q' hdx)];exact q') λc xs q'=>by rw[aq (ao q' hdx)];exact q'
 . refine⟨_,_,ex,rfl,rfl,rfl,QV _,by rw[aq (PX ned)];exact hx0,.inl rfl⟩
def FW(C:NQ)(names:List Str)(E:XK)(t:TA):TS:=λ_ σ H=>t σ H λvs H1=>vs.length=names.length/\ ∀ dx od,H1 dx=NI->E (.ref C) (NG dx) (upd H1 dx (.dw od (.xd (names.zip vs))))
theorem vg{M:VR}{A:OI}{K:NH}{env:Env}{E':NJ->NO->Prop}{s:NO}{Q:Flow->NO->Prop}{m:Sem NJ}(hh:A.handled=NI)(mk:gh K C=true)
  (hm:Ob M A m (λv s'=> ∃ x od av sl,v= .ref x/\K.In s'.heap/\s'.heap.get? x=NG ⟨.ref C,od,.fields av,sl⟩/\av[1]?=NG .none/\E' (.ref x) s') E' s):Ob M A (raiseStmt env (NG m) NI) Q E' s:=by
 unfold raiseStmt;refine NL (Oj hm (λv s' ⟨x,od,av,sl,e1,X,ho,h1,h⟩=>?_) λ_ _ z=>z);subst e1;obtain⟨nm,qn,N,bs,bm,hdct,sn,sub,ab,col,dd,k0,k1,k2,k3,k5,hC,T⟩:=v5 X mk;have cb:(Oe C::bm).contains (.type "BaseException")=true:=by rw[List.contains_cons,T.hasType (show uS.contains (.type "BaseException")=true by decide),WJ]
 obtain⟨hp,g,d,tk,os⟩:=s'
 repeat (first | with_reducible refine PM ho ?_ | with_reducible refine PM hC ?_ | (with_reducible refine Ut hC ?_;rw[cb]) | wp_step)
 rw[h1];refine N2 ?_;rw[if_neg (by decide)];exact N2 (wpAny_raiseNew_none hh h)
theorem xS{rpos:Pos}(M:G4 X.prog X.w X.K X.mg xn C names)(hd:X.A.depth+5 < RD)(hh:X.A.handled=NI)(hx:Passes (gz X.prog X.w) X E)(hg:Gl X xn)(ha:PA X (e::es) t)
  (hdb:(xn == ("__debug__" :Str))=false:=by decide) (he:Oy (e::es) X.env=(false,Py e X.env)::Oy es X.env:=by rfl) (hpl:(Ro pos (Oy es X.env)).any (·.1)=false:=by rfl) :
  PS X (.Raise (NG (.Call (.Name xn p) (e::es) [] pos)) NI rpos) (FW C names E t):=by
 intro pins s σ H D I h;rw[arm_exec_Raise];refine NL (R0 (vg hh M.Mo ?_));refine NL (fB (Q:=λv s'=> ∃ x od av sl,v= .ref x/\X.K.In s'.heap/\s'.heap.get? x=NG ⟨.ref C,od,.fields av,sl⟩/\av[1]?=NG .none/\X.xe (.ref x) s') ?_ λv s' q=>NL (R0 (N2 q)));refine Rr (jy I hg M.gl ?_ hdb);refine UH (h₀ :=X.base) I.ok.mod.HJ M.kp (fB (ha pos pins s σ H _ I h) λus s1 ⟨vs,H1,I1,r,hl,q⟩=>⟨I1.qA,?_⟩) he hpl;refine A9 M hd hh I1 r hl λx dx od H' s' n1 eH os bare un aW F ⟨odd,av,osl,e1,e2⟩=>?_;have J:=I1.lN os un aW bare λb z=>absurd z (by simp);exact⟨x,odd,av,osl,rfl,J.qA,e1,e2,hx pins σ H1 s1 _ s' I1 ⟨x,C,dx,H',rfl,os,bare,un,aW,F,by rw[eH];exact q dx od n1⟩⟩
end
abbrev hand(X:Cx)(x:NQ):Cx:={ X with A:=X.A.mark (NG (.ref x)),calm:=false,xe:=λ_ _=>False}
abbrev kA(X:Cx)(pn:List (NQ × Obj))(E:NJ->NO->Prop):Cx:={ X with pn:=pn,xe:=E}
section
variable{X:Cx}{pins:List (NQ × Obj)}{σ :St}{H:Hp}{s:NO}
theorem Inv.hand(I:Inv X pins σ H s)(x:NQ):Inv (hand X x) pins σ H s :=
 ⟨⟨I.ok.mod,I.ok.kind,I.ok.glob,I.ok.blt,I.ok.above,I.ok.inj,I.ok.has,I.ok.yk,λz=>Bool.noConfusion z,I.ok.frames,I.ok.Cy,I.ok.E7,I.ok.bs,I.ok.rn,I.ok.pN,I.ok.p6,I.ok.eV,I.ok.uJ⟩,I.os,I.bare,I.base,I.loc,I.cell,I.free,I.cW,I.pin,I.aW,I.len⟩
theorem Inv.nJ(ok:X.Ok){x:NQ}(I:Inv (L2.hand X x) pins σ H s):Inv X pins σ H s:=⟨ok,I.os,I.bare,I.base,I.loc,I.cell,I.free,I.cW,I.pin,I.aW,I.len⟩
theorem Inv.kA{E:NJ->NO->Prop}(I:Inv X pins σ H s):Inv (kA X (X.pn++pins) E) [] σ H s :=
 ⟨⟨I.ok.mod,I.ok.kind,I.ok.glob,I.ok.blt,I.ok.above,I.ok.inj,I.ok.has,I.ok.yk,I.ok.hd,I.ok.frames,I.ok.Cy,I.ok.E7,I.ok.bs,I.ok.rn,I.ok.pN,I.ok.p6,I.ok.eV,I.ok.uJ⟩,I.os,I.bare,I.base,I.loc,I.cell,I.free,I.cW,λp hp=>I.pin p (by rw[Ov] at hp;exact hp),I.aW,I.len⟩
theorem Inv.kg(ok:X.Ok){E:NJ->NO->Prop}{pins':List (NQ × Obj)}(I:Inv (L2.kA X (X.pn++pins) E) pins' σ H s):Inv X pins σ H s:=⟨ok,I.os,I.bare,I.base,I.loc,I.cell,I.free,I.cW,λp hp=>I.pin p (O4 _ hp),I.aW,I.len⟩
theorem Inv.past{n:Nat}{h':OQ}(I:Inv X pins σ H s)(hn:X.s₀.heap.objs.size<=n)(hL:X.env.locals < n)(hc: ∀ x c,X.env.cells.lookup x=NG c->c < n)(hp: ∀ p∈X.pn++pins,p.1 < n)(P:eQ n H (ez X.stack) s.heap h'):Inv X pins σ H { s with heap:=h'}:=by
 refine I.lN (ch:=(Oa s.heap.objs.size).filter λb=>decide (n<=b)) rfl ⟨λb o e q nb hx=>P.keep b o e (.inl ?_) nb,λb o e q hb _=>P.slot b o e hb,λ_ _ _ q _=>q,λb o e hx=>?_,λ_ _ q=>q,λ_ _ _ q=>q,λb ps q=>⟨#[],by rw[q];simp⟩⟩ (λb u e=>?_) I.bare λb hb=>?_
 . rcases Qu b n with z | z
   . exact z
   . exact absurd (PR.mpr ⟨PK.mpr (NY e),decide_eq_true z⟩) hx
 . by_cases hb:b∈ez X.stack
   . obtain⟨sl,e2⟩:=P.slot b o e hb;exact⟨_,e2⟩
   . rcases Qu b n with z | z
     . exact⟨o,P.keep b o e (.inl z) hb⟩
     . exact absurd (PR.mpr ⟨PK.mpr (NY e),decide_eq_true z⟩) hx
 . refine(I.aW b u e).iO (λd w' hd q=>P.keep d w' q (.inr ?_) λhb=>?_) (λ_ q=>q) λ_ _ q=>q
   . rcases hd with z | z
     . rw[z,e];simp
     . rw[z];simp
   . have:=I.hZ d hb;rcases hd with z | z
     . rw[z,e] at this;cases this
     . rw[z] at this;cases this
 . have z:n<=b:=of_decide_eq_true (PR.mp hb).2;exact⟨.inr (N5 hn z),Q2 (NV hL z),λx c e=>Og (NV (hc x c e) z),λp q=>Og (NV (hp p q) z)⟩
end
structure zK(K:NH)(L:NQ):Prop where
 cls: ∃ dd cd sl,K.lookup L=NG ⟨.type "type",dd,.cls cd,sl⟩
 bx:O0 K L (.type "BaseException")=NG true
theorem qD{M:VR}{A:OI}{K:NH}{E:NJ->NO->Prop}{s:NO}{x C L:NQ}{oe:Obj}{Q:Bool->NO->Prop}{b:Bool}(X:K.In s.heap)(S:zK K L)(hx:s.heap.get? x=NG oe)(hc:oe.cls= .ref C)(hm:O0 K C (.ref L)=NG b)(h:Q b s) :
  Ob M A (excMatches (.ref x) (.ref L)) Q E s:=by
 obtain⟨dd,cd,sl,lk⟩:=S.cls;have hL:=X _ _ lk;have f:=tc_notTuple;obtain⟨hh,g,d,t,os⟩:=s;unfold excMatches
 repeat (first | (with_reducible refine PM hx ?_;rw[hc]) | with_reducible refine PM hL ?_ | with_reducible refine PySem.W.Looks.at (Ql X S.bx) ?_ | with_reducible refine PySem.W.Looks.at (Ql X hm) ?_ | wp_step)
 cases b<;>(wp_walk;exact h)
def Jb(H:Hp)(x C:NQ)(fs:List (Str × V)):Prop:= ∃ oe dx od av,H x=NG (.dw oe (.ext λ_=>True))/\oe.cls= .ref C/\oe.dict=NG dx/\oe.data= .fields av/\H dx=NG (.dw od (.xd fs))
def Hw(K:NH)(L:NQ)(i n:Nat)(tb:XK->TS)(th:TS):TS:=λD σ H=> ∃ E:XK,tb E D σ H/\ ∀ c d H',E c d H'-> ∃ C dx od fs,c= .ref C/\d=NG dx/\O0 K C (.ref L)=NG true/\H' dx=NG (.dw od (.xd fs)) /\
 ∀ x oe av,H' x=NI->oe.cls= .ref C->oe.dict=NG dx->oe.data= .fields av->th { nx:=fun σ2 H2=>D.nx (σ2.set i NI) H2,rt:=D.rt,bk:=fun σ2 H2=>D.bk (σ2.set i NI) H2,ct:=fun σ2 H2=>D.ct (σ2.set i NI) H2} ((NM n NI).set i (NG (.ref x))) (upd H' x (.dw oe (.ext λ_=>True)))
section
variable{X:Cx}{cn n:Str}{L:NQ}{i:Nat}{np hpos pos:Pos}{body suite:List Pn}{b₀ :Pn}{tb:XK->TS}{th:TS}
theorem gW{σ :St}{i j:Nat}{v:V}(h:(σ.set i NI)[j]?=NG (NG v)): σ[j]?=NG (NG v)/\j≠i:=by
 by_cases z:j=i
 . subst z;rcases Qu j σ.length with y | y
   . rw[OO y] at h;cases h
   . rw[QJ (by simpa using y)] at h;cases h
 . rw[OP (PX z)] at h;exact⟨h,z⟩
theorem name_goes{pins:List (NQ × Obj)}{σ :St}{H:Hp}{s:NO}{Q:Unit->NO->Prop}{A:OI}{E':NJ->NO->Prop}(I:Inv X pins σ H s)(hN:X.N.Nodup)(hi:X.N[i]?=NG n)(hl:X.env.kindOf n=NG .local)
  (h: ∀ s',Inv X pins (σ.set i NI) H s'->Q () s'):Ob (Of X.prog X.w) A (do bindName X.env n .none;unbindBehindTheSuite X.env n hpos) Q E' s:=by
 obtain⟨m,hn,lo⟩:=id I.loc;obtain⟨oL,_,_,hoL,_⟩:=id hn;refine wpAny_nameGoes_keeps hl hn (by rw[I.ok.kind];rfl) λh' v hn' sb=>h _ ?_;have xH:=I.xH;have I1:Inv X pins (σ.set i NI) H s:=I.weak (by simp) λj v e=>(gW e).1;refine⟨I.ok,I.os,I.bare,⟨λb o e n' hb hx=>?_,λb o e n' hb hx=>?_,I.base.free,λb o e hx=>?_,I.base.fW,I.base.fm,I.base.gH⟩,⟨_,hn',λj y w e1 e2 e3=>?_⟩,λy c e=>?_,I.free,I.cW,λp hp=>?_,λb u e=>?_,I1.len⟩
 . exact(sb.2 b (Og (NV (NY e) I.ok.above))).trans (I.base.keep b o e n' hb hx)
 . obtain⟨sl,e1⟩:=I.base.slot b o e n' hb hx;exact⟨sl,(sb.2 b (Og (NV (NY e) I.ok.above))).trans e1⟩
 . obtain⟨o',e1⟩:=I.base.there b o e hx;exact⟨o',(sb.2 b (Og (NV (NY e) I.ok.above))).trans e1⟩
 . obtain⟨q,nj⟩:=gW e2;obtain⟨u,r,l⟩:=lo j y w e1 q e3;refine⟨u,r,?_⟩;rcases l with⟨k,z⟩ | ⟨k,c,e,z⟩
   . refine .inl ⟨k,?_⟩;have:y≠n:=λe=>nj (j8 hN e1 (e ▸ hi));simp[this,z]
   . exact .inr ⟨k,c,e,z.sameBut sb (xH y c e)⟩
 . obtain⟨w,z⟩:=I.cell y c e;exact⟨w,z.sameBut sb (xH y c e)⟩
 . obtain⟨e,n',ne,nf,d⟩:=I.pin p hp;exact⟨(sb.2 p.1 ne).trans e,n',ne,nf,d⟩
 . refine(I.aW b u e).iO (λd w' hd q=>(sb.2 d ?_).trans q) (λ_ q=>q) λ_ _ q=>q;rintro rfl;rcases hd with z | z
   . rw[<- z,I.free] at e;cases e
   . rw[I.free] at z;cases z
theorem SP.kg(ok:X.Ok){pins:List (NQ × Obj)}{E':NJ->NO->Prop}{D:Ends}{f:Flow}{s':NO}(h:SP (kA X (X.pn++pins) E') [] D f s'):SP X pins D f s':=by
 cases f with
 | next=>obtain ⟨σ',H',I,q⟩:=h;exact ⟨σ',H',I.kg ok,q⟩
 | brk=>obtain ⟨σ',H',I,q⟩:=h;exact ⟨σ',H',I.kg ok,q⟩
 | cont=>obtain ⟨σ',H',I,q⟩:=h;exact ⟨σ',H',I.kg ok,q⟩
 | ret u=>obtain ⟨v, σ',H',I,r,q⟩:=h;exact ⟨v, σ',H',I.kg ok,r,q⟩
theorem E6{pins:List (NQ × Obj)}{D:Ends}{E:XK}(ok:X.Ok)(hl0:X.stack=X.env::X.outer)(hf0:X.env.frame=NG X.env.locals)(hN:X.N.Nodup)(hi:X.N[i]?=NG n)(hk:X.env.kindOf n=NG .local)(hg:Gl X cn)(hm:X.mg cn=NG (.ref L))(S:zK X.K L)(hh: ∀ x,kO (hand X x) (b₀ ::suite) th)
  (hE: ∀ c d H',E c d H'-> ∃ C dx od fs,c= .ref C∧d=NG dx∧O0 X.K C (.ref L)=NG true∧H' dx=NG (.dw od (.xd fs))∧ ∀ x oe av,H' x=NI->oe.cls= .ref C->oe.dict=NG dx->oe.data= .fields av ->
   th { nx:=fun σ2 H2=>D.nx (σ2.set i NI) H2,rt:=D.rt,bk:=fun σ2 H2=>D.bk (σ2.set i NI) H2,ct:=fun σ2 H2=>D.ct (σ2.set i NI) H2} ((NM X.N.length NI).set i (NG (.ref x))) (upd H' x (.dw oe (.ext λ_=>True))))
  (hdb:(cn == ("__debug__" :Str))=false) (E':NJ->NO->Prop) {e:NJ} {s s':NO} {σ :St} {H:Hp} {pins':List (NQ × Obj)} {ch:List NQ} (I:Inv (kA X (X.pn++pins) E') pins' σ H s) (hch: ∀ b∈ch,(b∈X.ex\/X.s₀.heap.objs.size<=b)/\b≠X.env.locals/\(∀ x c,X.env.cells.lookup x=NG c->c≠b)/\ ∀ p∈(X.pn++pins)++pins',p.1≠b) (hc:Ma X.prog X.w ch X.stack H s E e s') :
  Ob (Of X.prog X.w) X.A (S6 e X.env) (λ_ s₂ =>Ob (Of X.prog X.w) X.A (So e NI) (λ_ s₃ =>Ob (Of X.prog X.w) X.A (handleBy e X.env [.ExceptHandler (NG (.Name cn np)) (NG n) (b₀ ::suite) hpos]) (SP X pins D) X.xe s₃) X.xe s₂) X.xe s':=by
 obtain⟨x,C,dx,H',rfl,os,bare,un,aW,F,hx⟩:=hc;obtain⟨C',dx',od,fs,e1,e2,mr,hd,hth⟩:=hE _ _ _ hx;cases e1;cases e2;have I0:Inv X pins σ H s:=I.kg ok;have J:Inv X pins σ H' s':=I0.lN os un aW bare λb hb=>let ⟨a1,a2,a3,a4⟩:=hch b hb;⟨a1,a2,a3,λp hp=>a4 p (O4 _ hp)⟩
 have hfr:X.A.frames=NG (X.env::X.outer):=by rw[<- hl0];exact ok.frames
 have pst: ∀{s1:NO}{h':OQ},Inv X pins σ H' s1->eQ s.heap.objs.size H' (ez X.stack) s1.heap h'->Inv X pins σ H' { s1 with heap:=h'}:=λK1 P=>K1.past I0.sz I0.lt (λy c e=>let ⟨_,z⟩:=I0.cell y c e;z.lt) (λp hp=>NY (I0.pin p hp).1) P;have frd: ∀{s1:NO},Inv X pins σ H' s1-> ∀ b∈ez X.stack,∃ o,s1.heap.get? b=NG o/\ ∀ vs,o.data≠ .fields vs:=λK1 b hb=>(K1.stack.mem hb).2;refine jO hfr (by rw[<- hl0];exact J.stack) hf0 hf0 F F.sz (λa ha=>J.aW.fresh ha) λh1 p1 F1=>?_;rw[<- hl0] at p1;have J1:=pst J p1;refine kl (s:={ s' with heap:=h1}) (frd J1) F1.Lq λh2 p2 F2=>?_;have J2:=pst J1 p2;refine wpAny_handleBy_cons (codeAny_handlers_test (jy (X:=hand X x) (J2.hand x) hg hm ?_ hdb)) (by intro q;cases q);obtain⟨oe,av,x1,x2,x3,x4,x5,x6,x7⟩:=id F2;refine qD J2.qA S x1 x2 mr (codeAny_handlers_suite_as ?_);refine kl (s:={ s' with heap:=h2}) (frd J2) F2 λh3 p3 F3=>?_;have J3:=(pst J2 p3).hand x;obtain⟨oe,av,x1,x2,x3,x4,x5,x6,x7⟩:=id F3;have J4:Inv (hand X x) pins (NM X.N.length NI) (upd H' x (.dw oe (.ext λ_=>True))) { s' with heap:=h3}:=by
  have W:Inv (hand X x) pins (NM X.N.length NI) H' { s' with heap:=h3}:=J3.weak (by rw[RQ];exact J3.len.symm) λj v e=>by
   rw[Pk] at e;split at e<;>cases e
  have xl: ∀{b:NQ},b < s.heap.objs.size->b≠x:=λz=>Og (NV z x5);refine Inv.step (s:={ s' with heap:=h3}) (H':=upd H' x (.dw oe (.ext λ_=>True))) W (ch:=[x]) (g':=s'.gens) (d':=s'.drawn) (h':=h3) (t':=s'.toks) (λb hb=>?_) (λb o _ _ _ e _=>e) (λb o _ _ _ e _=>⟨o.slots,e⟩) (λb o hc e n'=>?_) (λb o _ e=>⟨o,e⟩) (λb xs e=>?_) (λb o u e=>?_) (λb ps e=>⟨#[],?_⟩) (λ_ z=>z) (λb u e=>?_) W.bare
  . rw[Od.mp hb];exact⟨.inr (N5 I0.sz x5),PX (xl I0.lt),λy c e=>xl (let ⟨_,z⟩:=I0.cell y c e;z.lt),λp hp=>xl (NY (I0.pin p hp).1)⟩
  . rw[aq (λz=>hc (by simp[z]))];exact n'
  . rw[aq (ao e x6)];exact e
  . rw[aq (ao e x6)];exact e
  . rw[aq (ao e x6),e];simp
  . by_cases z:b=x
    . subst z;rw[aT] at e;cases e;exact⟨x1,trivial,⟨_,x1⟩,λ_ _ _ _=>trivial⟩
    . rw[aq z] at e;exact(W.aW b u e).iO (λ_ _ _ q=>q) (λc q=>by rw[aq (ao q x6)];exact q) λc xs q=>by rw[aq (ao q x6)];exact q
 refine jG (X:=hand X x) (v:= .ref x) J4 hN hi (.inl hk) rfl (λs5 J5=>?_) (.inr hk);refine Oj (hh x pins s5 _ _ _ J5 (hth x oe av x6 x2 x3 x4)) (λf s6 q=>?_) λ_ _ z=>z.elim;cases f with
 | next=>obtain ⟨σ',H6,I6,q⟩:=q;exact name_goes (I6.nJ ok) hN hi hk λs7 I7=>⟨_,H6,I7,q⟩
 | brk=>obtain ⟨σ',H6,I6,q⟩:=q;exact name_goes (I6.nJ ok) hN hi hk λs7 I7=>⟨_,H6,I7,q⟩
 | cont=>obtain ⟨σ',H6,I6,q⟩:=q;exact name_goes (I6.nJ ok) hN hi hk λs7 I7=>⟨_,H6,I7,q⟩
 | ret u=>obtain ⟨v, σ',H6,I6,r,q⟩:=q;exact name_goes (I6.nJ ok) hN hi hk λs7 I7=>⟨v,_,H6,I7,r,q⟩
theorem As(hl0:X.stack=X.env::X.outer)(hf0:X.env.frame=NG X.env.locals)(hN:X.N.Nodup)(hi:X.N[i]?=NG n)(hk:X.env.kindOf n=NG .local)(hg:Gl X cn)(hm:X.mg cn=NG (.ref L))(S:zK X.K L)(hh: ∀ x,kO (hand X x) (b₀ ::suite) th)
  (hb: ∀ pn E' E,dY (kA X pn E') E->Vf (Of X.prog X.w) X.A X.env E'->kO (kA X pn E') body (tb E)) (hdb:(cn == ("__debug__" :Str))=false:=by decide) :
  PS X (.Try body [.ExceptHandler (NG (.Name cn np)) (NG n) (b₀ ::suite) hpos] [] [] pos) (Hw X.K L i X.N.length tb th):=by
 rintro pins s σ H D I ⟨E,w,hE⟩;refine wpAny_Try_except (Oj (hb (X.pn++pins) (λe s₁ =>Ob (Of X.prog X.w) X.A (S6 e X.env) (λ_ s₂ =>Ob (Of X.prog X.w) X.A (So e NI) (λ_ s₃ =>Ob (Of X.prog X.w) X.A (handleBy e X.env [.ExceptHandler (NG (.Name cn np)) (NG n) (b₀ ::suite) hpos]) (SP X pins D) X.xe s₃) X.xe s₂) X.xe s₁) E
  (λpins' σ' H' s' e s'' ch I' hch hc=>E6 I.ok hl0 hf0 hN hi hk hg hm S hh hE hdb _ I' hch hc) PassesOwn.looking [] s σ H D I.kA w) (λf s1 q=>?_) λe s1 z=>z)
 have q':=q.kg I.ok;cases f with
 | next=>exact Rj q'
 | _=>exact q'
end
noncomputable def mask(n:Str):Str:=⟨n.cps.push 0⟩
def da(sc fn:List (Str × R1))(N vars:List Str) :=
 sc.all (λp=>(p.2 != .cell||sc.lookup p.1 == NG .cell)&&(p.2 != .free||(fn.lookup p.1 == NG .cell||fn.lookup p.1 == NG .free))&&(p.2 != .local||sc.lookup p.1 == NG .local)) &&
 N.all (λn=>vars.contains n||(sc.lookup n !=NG .local&&sc.lookup n !=NG .cell))&&vars.all (λv=>sc.lookup (mask v) == NI)
def kH(N vars:List Str):=N.map (λn=>if vars.contains n then mask n else n)++vars
def bQ(X:Cx)(vars:List Str)(scope:Q5)(cl:List (Str × NQ))(C:NQ)(s₀ :NO)(H₀ :Hp)(ex:List NQ)(pn:List (NQ × Obj)):Cx :=
 { X with N:=kH X.N vars,env:=Pg scope cl C X.env,s₀ :=s₀,H₀ :=H₀,outer:=X.stack,ex:=ex,fn:=λx=>scope.names.lookup x == NG .cell,pn:=pn}
theorem gv(f:Str->R1->R1) x: ∀ names:List (Str × R1),(names.map λp=>(p.1,f p.1 p.2)).lookup x=(names.lookup x).map (f x)
 | []=>rfl
 | p::r=>by
  have ih:=gv f x r;rw[NR,Pa,Pa,ih];cases q:x == p.1 with
  | true=>simp_all
  | false=>rfl
theorem fA{env:Env}{names:List (Str × R1)} :
  (names.map λ(n,k)=>if (k == Qh&&env.scope.kind == .function&&env.kindOf n == NG .cell) then(n,Qi) else(n,k)).lookup x =
   (names.lookup x).map λk=>if (k == Qh&&env.scope.kind == .function&&env.kindOf x == NG .cell) then Qi else k:=by
 rw[<- gv (λn k=>if (k == Qh&&env.scope.kind == .function&&env.kindOf n == NG .cell) then Qi else k) x names];congr 2
 funext p
 show(if _ then _ else _)=_;split<;>rename_i z<;>simp[z]
theorem lookup_mem{β :Type}{c}: ∀{l:List (Str × β)},l.lookup x=NG c->(x,c)∈l
 | [],h=>by simp at h
 | p::r,h=>by
  rw[Pa] at h;cases q:x == p.1 with
  | true =>
   rw[q] at h
   obtain rfl:x=p.1:=by simpa using q
   obtain rfl:p.2=c:=by simpa using h
   exact N1
  | false=>rw[q] at h;exact NW _ (lookup_mem h)
theorem dm{β :Type}{c}: ∀{l:List (Str × β)},(x,c)∈l-> ∃ d,l.lookup x=NG d
 | [],h=>by cases h
 | (n,k)::r,h=>by
  cases hx:x == n with
  | true=>exact⟨k,by simp only[Pa,hx]⟩
  | false =>
   have h':(x,c)∈r:=by
    simp_all
   obtain⟨d,q⟩:=dm h'
   exact⟨d,by simp only[Pa,hx];exact q⟩
theorem gD: ∀(names:List (Str × R1)) acc,(∀ p∈names,p.2= .free-> ∃ c,env.cells.lookup p.1=NG c) ->
  ∃ cl,(forIn names acc λ(x:Str × R1) (r)=>(match x with | (name,kind)=>if (kind == Qh)=true then do let a <- cellOf env name;pure (Qz ((name,a)::r)) else pure (Qz r)))=pure cl /\
   (∀ p∈cl,p∈acc\/env.cells.lookup p.1=NG p.2)/\(∀ p∈acc,p∈cl)/\ ∀ p∈names,p.2= .free-> ∃ c,(p.1,c)∈cl
 | [],acc,_=>⟨acc,rfl,λp h=> .inl h,λp h=>h,λp h=>by cases h⟩
 | (n,k)::r,acc,h=>by
  by_cases hk:(k == Qh)=true
  . obtain⟨c,hc⟩:=h (n,k) N1 (by simpa using hk);obtain⟨cl,e,h1,h2,h3⟩:=gD r ((n,c)::acc) λp hp=>h p (NW _ hp);refine⟨cl,?_,λp hp=>?_,λp hp=>h2 p (NW _ hp),λp hp hf=>?_⟩
    . rw[VG];have z:cellOf env n=pure c:=by unfold cellOf;have hc':=hc;rw[hc']
      simp only[hk,z];exact e
    . rcases h1 p hp with q | q
      . rcases Ot.mp q with q | q
        . exact .inr (by rw[q];exact hc)
        . exact .inl q
      . exact .inr q
    . rcases Ot.mp hp with q | q
      . exact⟨c,by rw[q];exact h2 _ N1⟩
      . exact h3 p q hf
  . obtain⟨cl,e,h1,h2,h3⟩:=gD r acc λp hp=>h p (NW _ hp);refine⟨cl,?_,h1,h2,λp hp hf=>?_⟩
    . rw[VG];simp only[if_neg hk];exact e
    . rcases Ot.mp hp with q | q
      . rw[q] at hf;exact absurd (by simpa using hf) hk
      . exact h3 p q hf
theorem kq(h: ∀ p∈scope.names,p.2= .free-> ∃ c,env.cells.lookup p.1=NG c) :
  ∃ cl,closureFor scope env=pure cl/\(∀ x c,cl.lookup x=NG c->env.cells.lookup x=NG c)/\ ∀ x,scope.names.lookup x=NG .free-> ∃ c,cl.lookup x=NG c:=by
 obtain⟨cl,e,h1,_,h3⟩:=gD scope.names [] h;refine⟨cl,?_,λx c q=>?_,λx q=>?_⟩
 . show(forIn scope.names ([]) _ >>= λr=>pure r)=_
   erw [e]
   rfl
 . rcases h1 _ (lookup_mem q) with z | z
   . cases z
   . exact z
 . obtain⟨c,q'⟩:=h3 _ (lookup_mem q) rfl;exact dm q'
theorem qN: ∀ names(h:OQ) acc x c,(P4 h.objs.size names acc).lookup x=NG c ->
  ((x,Qi) ∉ names/\acc.lookup x=NG c)\/((x,Qi)∈names/\h.objs.size<=c/\(S7 h names).IsCell c NI)
 | [],_,_,_,_,e=> .inl ⟨λz=>(by cases z),e⟩
 | (name,kind)::r,h,acc,x,c,e=>by
  unfold P4 at e;unfold S7;split at e
  . rename_i hk;have hk':kind= .cell:=by simpa using hk
    subst hk';have hz:(h.push { cls:= .type "cell",data:= .cell NI}).objs.size=h.objs.size+1:=O6 ..;rw[<- hz] at e;rcases qN r _ _ x c e with⟨n,q⟩ | ⟨m,le,q⟩
    . rw[Pa] at q;cases hx:x == name with
      | true =>
       rw[hx] at q
       cases q
       rw[show x=name by simpa using hx]
       exact .inr ⟨N1,NS _,_,Tz _ _ _ _ (Oh _ rfl),rfl⟩
      | false =>
       simp_all
    . exact .inr ⟨NW _ m,by rw[hz] at le;exact Nat.le_of_succ_le le,q⟩
  . rename_i hk;rw[if_neg hk];rcases qN r h acc x c e with⟨n,q⟩ | ⟨m,q⟩
    . refine .inl ⟨λz=>?_,q⟩;rcases Ot.mp z with w | w
      . simp_all
      . exact n w
    . exact .inr ⟨NW _ m,q⟩
theorem qS{lo:Nat}: ∀ names(n:Nat)(acc:List (Str × NQ)),(∀ x y c,acc.lookup x=NG c->acc.lookup y=NG c->lo<=c->x=y)->(∀ x c,acc.lookup x=NG c->c < n) ->
  ∀ x y c,(P4 n names acc).lookup x=NG c->(P4 n names acc).lookup y=NG c->lo<=c->x=y
 | [],_,_,h,_=>h
 | (name,kind)::r,n,acc,h,hn=>by
  unfold P4;split
  . have at_: ∀ z d,((name,n)::acc).lookup z=NG d->(z=name/\d=n)\/acc.lookup z=NG d:=λz d e=>by
     rw[Pa] at e;cases hz:z == name with
     | true=>simp_all
     | false=>rw[hz] at e;exact .inr e
    refine qS r (n+1) _ (λx y c e1 e2 hl=>?_) λx c e=>?_
    . rcases at_ x c e1 with⟨a,b⟩ | a<;>rcases at_ y c e2 with⟨a',b'⟩ | a'
      . rw[a,a']
      . exact absurd (hn y c a') (by rw[b];exact OT _)
      . exact absurd (hn x c a) (by rw[b'];exact OT _)
      . exact h x y c a a' hl
    . rcases at_ x c e with⟨_,b⟩ | a
      . simp_all
      . exact Nat.lt_succ_of_lt (hn x c a)
  . exact qS r n acc h hn
theorem kU{M:VR}{A:OI}{E:NJ->NO->Prop}{s:NO}{scope:Q5}{globals:NQ}{cl:List (Str × NQ)}{qual:Str}{outer:Env}{Q:Env->NO->Prop}
  (h:Q { scope:=scope,locals:=s.heap.objs.size,globals:=globals,cells:=P4 (s.heap.objs.size+1) scope.names cl,qual:=qual,func:=NI,code:=outer.code,frame:=outer.frame,builtins:=outer.builtins}
   { s with heap:=S7 (s.heap.push { cls:= .type "dict",data:= .dict #[]}) scope.names}):Ob M A (T4 scope globals cl [] qual NI .none (NG outer)) Q E s:=by
 simp only[T4,UM,if_true];refine NL (wpAny_alloc (NL (wpAny_layCells _ (λname kind cells=>by rfl) _ _ _ _ ?_)));rw[show({ s with heap:=s.heap.push { cls:= .type "dict",data:= .dict #[]}}:NO).heap.objs.size=s.heap.objs.size+1 from O6 ..];exact NL (by exact N2 (N2 h))
noncomputable def AQ(cs:List Ou) v :=
 forIn cs true λc r=>if r=true then(UG c v (Py c v) >>= λok=>pure (Qz ok)) else pure (Qz r)
def qc M A v e acc (X:NJ->NO->Prop) (D:NO->Prop):=λok u=>if ok=true then
  Ob M A (Py e v) (λx u1=>Ob M A (call (.builtin "list.append") [acc,x]) (λ_ u2=>D u2) X u1) X u
 else D u
def Dd(M:VR)(A:OI) v tg e (cs:List Ou) (it acc:NJ) (X:NJ->NO->Prop) (D:NO->Prop) (i:NJ) (u:NO) :=
 Ob M A (Tw tg it i) (λ_ u1=>Ob M A (RT tg v i) (λ_ u2=>Ob M A (AQ cs v) (qc M A v e acc X D) X u2) X u1) X u
theorem jH{prog:Om}{w:OC}{A:OI}{R:Result->NO->Prop}{s:NO}{elt target iter:Ou}{ifs:List Ou}{scope:Q5}{pos:Pos}{it acc:NJ}{env:Env}(I:Nat->NO->Prop)
  (turn: ∀ k u,I k u->Ob (Of prog w) A (pyNext it) (λr u1=>match r with
   | none=>R (.ok .next) u1
   | some i=>Dd (Of prog w) A env target elt ifs it acc (Tp (Of prog w) A env λe s'=>R (.error e) s') (λu2=> ∃ m,m < k/\I m u2) i u1) (Tp (Of prog w) A env λe s'=>R (.error e) s') u)
  (n:Nat) (h:I n s):Si (Of prog w) A (.compLoop (.ListComp elt [⟨target,iter,ifs,0⟩] scope pos) 0 it acc env) R s:=by
 refine codeAny_loop rfl I (λk u hu=>wpAny_noted (m:=compTurn (.ListComp elt [⟨target,iter,ifs,0⟩] scope pos) 0 it acc env) ?_) n h;rw[compTurn_list];refine NL (R0 (NL (Oj (turn k u hu) (λr u1 g=>?_) λ_ _ z=>z)))
 match r,g with
 | none,g=>exact N2 g
 | some i,g =>
  refine NL (Oj g (λ_ _ g=>NL (Oj g (λ_ _ g=>NL (Oj g (λok u4 g=>?_) λ_ _ z=>z)) λ_ _ z=>z)) λ_ _ z=>z)
  match ok,g with
  | false,g=>exact N2 (RW rfl g)
  | true,g=>exact NL (NL (Oj g (λ_ _ g=>NL (Oj g (λ_ _ g=>N2 (N2 (RW rfl g))) λ_ _ z=>z)) λ_ _ z=>z))
def PF X (ifs:List Ou) (t:TT) :=
 ∀ pins s(σ :St) H Q,Inv X pins σ H s->t σ H Q ->
  Ob (Of X.prog X.w) X.A (forIn ifs true λc r=>if r=true then do let ok <- UG c X.env (Py c X.env);pure (Qz ok) else pure (Qz r)) (TP X pins σ Q) X.xe s
noncomputable def B4:TT:=λ_ H Q=>Q true H
theorem Fp:PF X [] B4:=λ_ _ σ H Q I h=>wpAny_tests_nil ⟨H,I,h⟩
theorem Gp(h:PT X c t):PF X [c] t:=λpins s σ H Q I q=>wpAny_tests_one (h pins s σ H Q I q)
def G9(k:Nat)(wi:TI)(g:TG)(tt:TT)(te:TE):TE:=fun σ H Q=>wi σ H λJ H1=> ∃ W:Nat->Nat->List V->Hp->Prop,(∃ m,W 0 m [] H1)/\ ∀ i m ys H,W i m ys H ->
 (J.stop i H/\ ∀ p,H p=NI->Q (.ref p) (upd H p (.lst ys))) \/
 (J.go i H/\ys.length < NZ/\ ∀ x H',J.B3 i H x H'->g x (σ ++NM k NI) H' fun σ2 H2=>tt σ2 H2 λb H3 =>
  if b=true then te σ2 H3 λy H4=> ∃ m',m' < m/\W (i+1) m' (ys++[y]) H4 else ∃ m',m' < m/\W (i+1) m' ys H3)
section
variable{X:Cx}{pins:List (NQ × Obj)}{σ :St}{H:Hp}{s:NO}{scope:Q5}{vars:List Str}{cl:List (Str × NQ)}
theorem fR(h:da scope.names X.env.scope.names X.N vars=true): ∀ p∈scope.names,(p.2= .cell->scope.names.lookup p.1=NG .cell)/\(p.2= .free->X.env.kindOf p.1=NG .cell\/X.env.kindOf p.1=NG .free)/\(p.2= .local->scope.names.lookup p.1=NG .local):=by
 intro p hp;unfold da at h;simp only[N7,Ow] at h;obtain⟨⟨h1,_⟩,_⟩:=h;have q:=h1 p hp;simp only[R9,bne_iff_ne,beq_iff_eq] at q;obtain⟨⟨q1,q2⟩,q3⟩:=q;refine⟨λe=>?_,λe=>?_,λe=>?_⟩
 . rcases q1 with z | z
   . exact absurd e z
   . exact z
 . rcases q2 with z | z
   . exact absurd e z
   . exact z
 . rcases q3 with z | z
   . exact absurd e z
   . exact z
theorem Es(h:da scope.names X.env.scope.names X.N vars=true): ∀ n∈X.N,¬ n∈vars->scope.names.lookup n≠NG .local/\scope.names.lookup n≠NG .cell:=by
 intro n hn hv;unfold da at h;simp only[N7,Ow] at h;obtain⟨⟨_,h2⟩,_⟩:=h;have q:=h2 n hn;simp only[R9,N7,bne_iff_ne,List.contains_iff_mem] at q;exact q.resolve_left hv
theorem uj(h:da scope.names X.env.scope.names X.N vars=true): ∀ n∈vars,scope.names.lookup (mask n)=NI:=by
 intro n hn;unfold da at h;simp only[N7,Ow] at h;simpa using h.2 n hn
theorem Inv.bQ{C:NQ}(I:Inv X pins σ H s)(hkind:scope.kind= .function)(hlc:da scope.names X.env.scope.names X.N vars=true)
  (hc1: ∀ x c,cl.lookup x=NG c->(scope.names.lookup x≠NG .cell/\X.env.cells.lookup x=NG c)\/(scope.names.lookup x=NG .cell/\s.heap.objs.size<=c/\h'.IsCell c NI)) (hc2: ∀ x,scope.names.lookup x=NG .free\/scope.names.lookup x=NG .cell-> ∃ c,cl.lookup x=NG c)
  (hci: ∀ x y c,cl.lookup x=NG c->cl.lookup y=NG c->s.heap.objs.size<=c->x=y)
  (hfp: ∀ b∈fp,jN X pins H b) (hfo: ∀ b∈fp,∃ o,s.heap.get? b=NG o) (hC:s.heap.objs.size<=C) (hn:h'.Ns C m') (k: ∀ b o,s.heap.get? b=NG o->h'.get? b=NG o) :
  Inv (bQ X vars scope cl C s H fp (X.pn++pins)) [] (σ ++NM vars.length NI) H { s with heap:=h',toks:=t'}:=by
 have hHC:=I.aW.fresh hC;have lt: ∀ x c,X.env.cells.lookup x=NG c->c < s.heap.objs.size:=λx c e=>by obtain⟨v,q⟩:=I.cell x c e;exact q.lt
 refine⟨?ok,rfl,I.bare,Un.kept k,⟨m',hn,?loc⟩,λx c e=>?cell,hHC,λx c e=>(hc1 x c e).elim (λz=>I.cW x c z.2) (λz=>I.aW.fresh z.2.1),?pin,I.aW.kept k,?len⟩
 case ok =>
  refine{ mod:=I.ok.mod,kind:=?_,glob:=I.ok.glob,blt:=I.ok.blt,above:=hC,inj:=?_,has:=?_,yk:=?_,hd:=I.ok.hd,frames:=I.ok.frames,Cy:= .inl rfl,E7:=?_,bs:=I.bs,rn:=N5 I.ok.rn I.sz,pN:=?_,p6:=?_,eV:=I.stack,uJ:=I.hZ}
  . exact hkind
  . intro x y c e1 e2;rcases hc1 x c e1 with z | z
    . rcases hc1 y c e2 with w | w
      . exact I.ok.inj x y c z.2 w.2
      . exact absurd (NV (lt x c z.2) w.2.1) (OT _)
    . exact hci x y c e1 e2 z.2.1
  . intro x hx;have hx':(Pg scope cl C X.env).kindOf x=NG .cell\/(Pg scope cl C X.env).kindOf x=NG .free:=hx;have e:(Pg scope cl C X.env).kindOf x=(scope.names.lookup x).map λk=>if (k == Qh&&X.env.scope.kind == .function&&X.env.kindOf x == NG .cell) then Qi else k:=fA
    rw[e] at hx';cases q:scope.names.lookup x with
    | none=>rw[q] at hx';simp at hx'
    | some kd =>
     by_cases hf:kd= .free
     . subst hf;exact hc2 x (.inl q)
     . rw[q] at hx';have hf':(kd == Qh)=false:=by simpa using hf
       simp only[QB,hf',Pq,OL,if_false,RJ] at hx';rcases hx' with z | z
       . exact hc2 x (.inr (by rw[q,z]))
       . exact absurd z hf
  . intro x c hx e;have hx':(scope.names.lookup x == NG Qi)=true:=hx;rcases hc1 x c e with z | z
    . exact absurd (by simpa using hx') z.1
    . exact z.2.1
  . intro b hb;have f:=hfp b hb;obtain⟨o,e⟩:=hfo b hb;exact⟨Og (NV (NY e) hC),λx c e z=>(hc1 x c e).elim (λw=>f.2.2.2.2.1 x c w.2 z) (λw=>absurd (NV (NY (z ▸ ‹_› :s.heap.get? c=NG o)) w.2.1) (OT _))⟩
  . intro b o e hb;have f:=hfp b hb;rcases f.2.2.2.1 with z | z
    . exact I.ok.pN b o e z
    . exact absurd (NV (NY (I.ok.bs b o e).1) z) (OT _)
  . intro b hb z;have f:=hfp b hb;rcases Ot.mp (I.gB b z) with q | q
    . exact f.2.1 q
    . exact f.2.2.1 q
 case loc =>
  intro i x v e1 e2 e3
  have e1':(kH X.N vars)[i]?=NG x:=e1
  have e:(Pg scope cl C X.env).scope.names.lookup x=(scope.names.lookup x).map λk=>if (k == Qh&&X.env.scope.kind == .function&&X.env.kindOf x == NG .cell) then Qi else k:=fA
  by_cases hi:i < σ.length
  . rw[N3 hi] at e2;unfold kH at e1';rw[N3 (by rw[NU,<- I.len];exact hi),OD] at e1';cases q:X.N[i]? with
    | none=>rw[q] at e1';cases e1'
    | some n =>
     rw[q] at e1'
     have e1'':(if vars.contains n=true then mask n else n)=x:=OF e1'
     have vis:(scope.names.lookup x).isSome=true:=by
      unfold FK at e3;have e3':(Pg scope cl C X.env).scope.names.lookup x=NG .local\/(Pg scope cl C X.env).scope.names.lookup x=NG .cell\/(Pg scope cl C X.env).scope.names.lookup x=NG .free:=e3;rw[e] at e3';cases z:scope.names.lookup x with
      | none=>rw[z] at e3';simp at e3'
      | some _=>rfl
     by_cases hv:n∈vars
     . rw[if_pos (by simpa using hv)] at e1'';have:=uj (X:=X) hlc n hv;rw[e1''] at this;rw[this] at vis;cases vis
     . rw[if_neg (by simpa using hv)] at e1'';subst e1'';have nl:=Es (X:=X) hlc n (OV q) hv;cases z:scope.names.lookup n with
       | none=>rw[z] at vis;cases vis
       | some kd =>
        have hm:=fR (X:=X) hlc _ (lookup_mem z)
        have hkd:kd= .free:=by
         unfold FK at e3;have e3':(Pg scope cl C X.env).scope.names.lookup n=NG .local\/(Pg scope cl C X.env).scope.names.lookup n=NG .cell\/(Pg scope cl C X.env).scope.names.lookup n=NG .free:=e3;rw[e,z] at e3';by_cases hf:kd= .free
         . exact hf
         . simp_all
        subst hkd
        have kk:=hm.2.1 rfl
        obtain⟨m,_,hl⟩:=I.loc
        obtain⟨u,r,look⟩:=hl i n v q e2 (.inr kk)
        obtain⟨c,hcl⟩:=hc2 n (.inl z)
        have hco:=(hc1 n c hcl).elim (·.2) (λw=>by rw[z] at w;cases w.1)
        have look': ∃ c,X.env.cells.lookup n=NG c/\s.heap.IsCell c (NG u):=by
         rcases look with⟨y,_⟩ | ⟨_,y⟩
         . rcases kk with w | w<;>(rw[w] at y;cases y)
         . exact y
        obtain⟨c',hc',⟨o,ho,hd⟩⟩:=look'
        have ec:=OF (hco.symm.trans hc')
        subst ec
        refine⟨u,r,.inr ⟨?_,c,hcl,o,k c o ho,hd⟩⟩
        show(Pg scope cl C X.env).scope.names.lookup n=NG .cell\/(Pg scope cl C X.env).scope.names.lookup n=NG .free
        rw[e,z]
        simp only[QB]
        split
        . exact .inl rfl
        . exact .inr rfl
  . rw[Oz (Qg.mp hi),Pk] at e2;split at e2<;>cases e2
 case cell =>
  rcases hc1 x c e with z | z
  . obtain⟨v,o,ho,hd⟩:=I.cell x c z.2;exact⟨v,o,k c o ho,hd⟩
  . exact⟨NI,z.2.2⟩
 case pin =>
  intro p hp
  have hp':p∈X.pn++pins:=by simpa [L2.bQ] using hp
  obtain⟨e,n,ne,nf,d⟩:=I.pin p hp'
  refine⟨k _ _ e,n,Og (NV (NY e) hC),λz=>?_,d⟩
  rcases Ot.mp (I.gB p.1 z) with q | q
  . exact ne q
  . exact nf q
 case len =>
  show(σ ++NM vars.length NI).length=(kH X.N vars).length
  unfold kH
  rw[NX,NX,NU,RQ,I.len]
end
def GK(n:Nat)(g:TG):= ∀ x σ H Q,g x σ H Q->g x σ H fun σ2 H2=>Q σ2 H2/\ ∀ j,j < n-> σ2[j]?= σ[j]?
def HK(n:Nat)(g:yn):= ∀ xs σ H Q,g xs σ H Q->g xs σ H fun σ2 H2=>Q σ2 H2/\ ∀ j,j < n-> σ2[j]?= σ[j]?
def mY(g:TG):= ∀ x σ H Q Q',(∀ σ2 H2,Q σ2 H2->Q' σ2 H2)->g x σ H Q->g x σ H Q'
theorem Ab(h:n<=i):GK n (cL i):=λx σ H Q q=>⟨q,λj hj=>OP (by omega)⟩
theorem qF:mY (cL i):=λx σ H Q Q' f q=>f _ _ q
theorem D3:HK n uy:=λxs σ H Q q=>⟨q.1,q.2,λ_ _=>rfl⟩
theorem Bx(h:GK n g)(hm:mY g)(hs:HK n gs):HK n (jc g gs):=λxs σ H Q q=>by
 obtain⟨v,r,e,z⟩:=q;refine⟨v,r,e,hm _ _ _ _ _ (fun σ2 H2 y=>?_) (h _ _ _ _ z)⟩;have y':=hs _ _ _ _ y.1;have:(fun σ3 H3=>(Q σ3 H3/\ ∀ j,j < n-> σ3[j]?= σ2[j]?))=fun σ3 H3=>(Q σ3 H3/\ ∀ j,j < n-> σ3[j]?= σ[j]?):=by
  simp_all
 rw[this] at y';exact y'
theorem GH{K}(hs:HK n gs):GK n (pY K m gs):=λx σ H Q q=>by
 obtain⟨a,xs,e,h1,h2,h3⟩:=q;exact⟨a,xs,e,h1,h2,hs _ _ _ _ h3⟩
section
variable{X:Cx}{scope:Q5}{vars:List Str}{elt tg iter:Ou}{ifs:List Ou}{pos:Pos}{wi:TI}{g:TG}{tt:TT}{te:TE}
theorem jM{pins:List (NQ × Obj)}{σ :St}{H2:Hp}{s2:NO}{cl:List (Str × NQ)}{it:NQ}{fp:List NQ}{tn:Nat->OQ->Prop}{J:It}{RR:NJ->NQ->Result->NO->Prop}{Q:VK}{E:NJ->NO->Prop}
  (hc:X.calm=true) {EX:XK} (hst:(∀ c d H,¬ EX c d H)\/ ∃ iC out0 L,X.stack=iC::out0/\iC.frame=NG L/\X.env.frame=NG L) (hkind:scope.kind= .function) (hlc:da scope.names X.env.scope.names X.N vars=true)
  (hb: ∀ cl C s₀ H₀ ex pn E',dY ((bQ X vars scope cl C s₀ H₀ ex pn).a0 E') EX->PG ((bQ X vars scope cl C s₀ H₀ ex pn).a0 E') tg g/\PF ((bQ X vars scope cl C s₀ H₀ ex pn).a0 E') ifs tt/\PE ((bQ X vars scope cl C s₀ H₀ ex pn).a0 E') elt te) (hgk:GK X.N.length g)
  (hc1: ∀ x c,cl.lookup x=NG c->X.env.cells.lookup x=NG c) (hc2: ∀ x,scope.names.lookup x=NG .free-> ∃ c,cl.lookup x=NG c)
  (I2:Inv X pins σ H2 s2) (T:Turn X.prog X.w X.K tg J fp it tn) (st2:tn 0 s2.heap) (f2: ∀ b∈fp,jN X pins H2 b)
  {W:Nat->Nat->List V->Hp->Prop} {m0:Nat} (w0:W 0 m0 [] H2)
  (turn: ∀ i m ys H,W i m ys H->(J.stop i H/\ ∀ p,H p=NI->Q (.ref p) (upd H p (.lst ys))) \/
   (J.go i H/\ys.length < NZ/\ ∀ x H',J.B3 i H x H'->g x (σ ++NM vars.length NI) H' fun σ2 H2=>tt σ2 H2 λb H3 =>
    if b=true then te σ2 H3 λy H4=> ∃ m',m' < m/\W (i+1) m' (ys++[y]) H4 else ∃ m',m' < m/\W (i+1) m' ys H3))
  (hRR: ∀ D C s4 H4 ys m,Inv X pins σ (upd H4 D (.lst ys)) s4->s4.heap.Ns C m->H4 D=NI->(upd H4 D (.lst ys)) C=NI->C≠X.env.locals->X.s₀.heap.objs.size<=C->(∀ x c,X.env.cells.lookup x=NG c->c≠C)->(∀ p∈X.pn++pins,p.1≠C) ->
   Q (.ref D) (upd H4 D (.lst ys))->RR (.ref D) C (.ok .next) s4)
  (hRE: ∀ D C s4 H4 x Cc dx m,s4.os=s2.os->Q1 s4.gens->Un (ez X.stack) fp H2 H4 s2.heap s4.heap->fb X.prog X.w H4 s4.heap->(∀ b∈ez X.stack,H4 b=NI/\ ∃ o,s4.heap.get? b=NG o/\ ∀ vs,o.data≠ .fields vs)->ji s2.heap.objs.size H4 s4.heap x Cc dx->EX (.ref Cc) (NG dx) H4->s4.heap.Ns C m->H4 C=NI->s2.heap.objs.size<=C->C ∉ ez X.stack->RR (.ref D) C (.error (.ref x)) s4) :
  Ob (Of X.prog X.w) X.A (newList []) (λacc s₃ =>Ob (Of X.prog X.w) X.A (T4 scope X.env.globals cl [] X.env.qual NI .none (NG X.env)) (λcenv s₄ =>
   Si (Of X.prog X.w) X.A (.compStart (.ListComp elt [⟨tg,iter,ifs,0⟩] scope pos) 0 (.ref it) acc { cenv with scope:=relabel scope X.env}) (RR acc cenv.locals) s₄) E s₃) E s2:=by
 refine Pp (kU ?_);dsimp only;generalize hH2:s2.heap.push { cls:= .type "list",dict:=NI,data:= .seq ([]:List NJ).toArray}=P2;have hC:P2.objs.size=s2.heap.objs.size+1:=by rw[<- hH2,O6]
 have hDC:s2.heap.objs.size≠P2.objs.size:=by rw[hC];exact Og (Vi _)
 have hCle:s2.heap.objs.size<=P2.objs.size:=by rw[hC];exact QV _
 have hz:(P2.push { cls:= .type "dict",data:= .dict #[]}).objs.size=P2.objs.size+1:=O6 ..;have cn:=qN scope.names (P2.push { cls:= .type "dict",data:= .dict #[]}) cl;rw[hz] at cn;have ci: ∀ x y c,(P4 (P2.objs.size+1) scope.names cl).lookup x=NG c->(P4 (P2.objs.size+1) scope.names cl).lookup y=NG c->s2.heap.objs.size<=c->x=y:=qS scope.names (P2.objs.size+1) cl (λx y c e1 _ hl=>absurd (NV (I2.cell x c (hc1 x c e1)).choose_spec.lt hl) (OT _)) (λx c e=>NV (I2.cell x c (hc1 x c e)).choose_spec.lt (SN hCle));have cs: ∀ x,scope.names.lookup x=NG .free\/scope.names.lookup x=NG .cell-> ∃ c,(P4 (P2.objs.size+1) scope.names cl).lookup x=NG c:=λx h=>Pe.mp (Qt _ _ _ (h.elim (λz=> .inr (Pe.mpr (hc2 x z))) .inl));have hns₁ :(S7 (P2.push { cls:= .type "dict",data:= .dict #[]}) scope.names).Ns P2.objs.size (λ_=>NI):=(Heap.Ns.new P2 (.type "dict")).keeps (Tz _ _);have kp: ∀ b o,P2.get? b=NG o->(S7 (P2.push { cls:= .type "dict",data:= .dict #[]}) scope.names).get? b=NG o:=λb o e=>Tz _ _ b o (NT _ e);generalize hh₁ :S7 (P2.push { cls:= .type "dict",data:= .dict #[]}) scope.names=h₁ at *;generalize hcl':P4 (P2.objs.size+1) scope.names cl=cl' at *;have c1: ∀ x c,cl'.lookup x=NG c->(scope.names.lookup x≠NG .cell/\X.env.cells.lookup x=NG c)\/(scope.names.lookup x=NG .cell/\P2.objs.size+1<=c/\h₁.IsCell c NI):=λx c e=>by
  rcases cn x c e with⟨n,q⟩ | ⟨m,q⟩
  . exact .inl ⟨λz=>n (lookup_mem z),hc1 x c q⟩
  . exact .inr ⟨(fR (X:=X) hlc _ m).1 rfl,q⟩
 have old: ∀ b o,s2.heap.get? b=NG o->h₁.get? b=NG o:=λb o e=>kp b o (hH2 ▸ NT _ e);have hacc:h₁.get? s2.heap.objs.size=NG { cls:= .type "list",data:= .seq ([]:List NJ).toArray 0}:=kp _ _ (hH2 ▸ Oh _ rfl);have c1': ∀ x c,cl'.lookup x=NG c->(scope.names.lookup x≠NG .cell/\X.env.cells.lookup x=NG c)\/(scope.names.lookup x=NG .cell/\s2.heap.objs.size<=c/\h₁.IsCell c NI):=λx c e=>(c1 x c e).imp id λz=>⟨z.1,N5 (SN hCle) z.2.1,z.2.2⟩
 generalize hDe:s2.heap.objs.size=D at *;generalize hCe:P2.objs.size=C at *;have fo: ∀ b∈fp,∃ o,s2.heap.get? b=NG o:=λb hb=>let ⟨o,e,_⟩:=T.obj _ _ st2 b hb;⟨o,e⟩
 have fpD: ∀ b∈fp,b < D:=λb hb=>by obtain⟨o,e⟩:=fo b hb;rw[<- hDe];exact NY e
 have pnlt: ∀ p∈X.pn++pins,p.1 < D:=λp hp=>by rw[<- hDe];exact NY (I2.pin p hp).1
 have cllt: ∀ x c,X.env.cells.lookup x=NG c->c < D:=λx c e=>by obtain⟨v,q⟩:=I2.cell x c e;rw[<- hDe];exact q.lt
 have hLD:X.env.locals < D:=by rw[<- hDe];exact I2.lt
 have hD0:X.s₀.heap.objs.size<=D:=by rw[<- hDe];exact I2.sz
 have IY0:Inv (bQ X vars scope cl' C s2 H2 fp (X.pn++pins)) [] (σ ++NM vars.length NI) H2 { s2 with heap:=h₁,toks:=s2.toks} :=
  I2.bQ hkind hlc (by rw[hDe];exact c1') cs (by rw[hDe];exact ci) f2 fo (by rw[hDe];exact hCle) hns₁ old
 have st1:tn 0 h₁ :=T.keep _ _ _ st2 λb _ o e=>old b o e;have Dn:s2.heap.objs.size<=C:=by rw[hDe];exact hCle
 obtain⟨hg,hf,he⟩:=hb cl' C s2 H2 fp (X.pn++pins) (Tp (Of X.prog X.w) X.A (Pg scope cl' C X.env) λe s'=>RR (.ref D) C (.error e) s') (by
  rintro pi σ' H s e s' ch I hch ⟨x,Cc,dx,H',rfl,os,bare,un,aW,F,hE⟩;have J:=I.lN os un aW bare hch;have J0:=J.bo;obtain⟨iC,out0,L,st0,f0,fX⟩:=hst.resolve_left λz=>z _ _ _ hE;have nz:D<=s.heap.objs.size:=by rw[<- hDe];exact I.sz
  obtain⟨m,hnC,_⟩:=id J0.loc;have hfr:X.A.frames=NG (iC::out0):=by rw[<- st0];exact J0.ok.frames
  have hl:s'.heap.FunFrames X.base (iC::out0):=by rw[<- st0];exact J0.stack
  have free: ∀ b∈ez (iC::out0),H' b=NI:=by rw[<- st0];exact J0.hZ
  have CF:C ∉ ez (iC::out0):=λhb=>by
   rw[<- st0] at hb;exact I2.Ar (s:=s2) (a:=C) Dn (by
    rcases Ot.mp (I2.gB C hb) with z | z
    . exact absurd I2.lt (by rw[<- z];exact Qg.mpr Dn)
    . exact z)
  show Ob _ _ (S6 _ _) _ _ _;refine jO hfr hl f0 (show(Pg scope cl' C X.env).frame=NG L from fX) F F.sz (λa ha=>J0.aW.fresh ha) λh1 p1 F1=>?_;refine hRE D C { s' with heap:=h1} H' x Cc dx m J0.os J0.bare ?_ (p1.aW free J0.aW) (λb hb=>?_) (F1.mono nz) hE ?_ J0.free hCle (by rw[st0];exact CF)
  . rw[st0];exact p1.un (by have:=J0.base;rw[<- st0];exact this) (by rw[hDe];exact nz) (λb hb=> .inl hb) λb hb=>hb
  . rw[st0] at hb;obtain⟨_,o,ho,hnf⟩:=hl.mem hb;obtain⟨sl,e⟩:=p1.slot b o ho hb;exact⟨free b hb,_,e,hnf⟩
  . obtain⟨o,es,ep,ho,r⟩:=hnC;exact⟨o,es,ep,p1.keep _ o ho (.inl I.bo.lt) CF,r⟩)
 have IY0:=IY0.a0 (Tp (Of X.prog X.w) X.A (Pg scope cl' C X.env) λe s'=>RR (.ref D) C (.error e) s');generalize hY:(bQ X vars scope cl' C s2 H2 fp (X.pn++pins)).a0 (Tp (Of X.prog X.w) X.A (Pg scope cl' C X.env) λe s'=>RR (.ref D) C (.error e) s')=Y at *;have Yprog:Y.prog=X.prog:=by rw[<- hY];rfl
 have Yw:Y.w=X.w:=by rw[<- hY];rfl
 have YK:Y.K=X.K:=by rw[<- hY];rfl
 have YA:Y.A=X.A:=by rw[<- hY];rfl
 have Ycalm:Y.calm=true:=by rw[<- hY];exact hc
 have Yenv:Y.env=Pg scope cl' C X.env:=by rw[<- hY];rfl
 have Yloc:Y.env.locals=C:=by rw[Yenv];rfl
 have Yex:Y.ex=fp:=by rw[<- hY];rfl
 have Yfs:Y.fs=ez X.stack:=by rw[<- hY];rfl
 have Ys0:Y.s₀ =s2:=by rw[<- hY];rfl
 have YH0:Y.H₀ =H2:=by rw[<- hY];rfl
 have Ypn:Y.pn=X.pn++pins:=by rw[<- hY];rfl
 have YN:Y.N=kH X.N vars:=by rw[<- hY];rfl
 have noE: ∀{v:NJ}{s:NO},Y.xe v s->Tp (Of X.prog X.w) X.A (Pg scope cl' C X.env) (λe s'=>RR (.ref D) C (.error e) s') v s:=λ{v s} h=>by rw[<- hY] at h;exact h
 have Ycell: ∀ x c,Y.env.cells.lookup x=NG c->c≠D:=λx c e=>by
  rw[Yenv] at e;exact(c1 x c e).elim (λz=>Og (cllt x c z.2)) (λz=>Q2 (NV (Nat.lt_succ_of_le hCle) z.2.1))
 have fpY: ∀{H':Hp}{pl:List (NQ × Obj)},(∀ b∈fp,H' b=NI)->(∀ p∈pl,D<=p.1)-> ∀ b∈fp,jN Y pl H' b:=λ{H' pl} hn hp b hb=>by
  refine⟨hn b hb,?_,?_,.inl (by rw[Yex];exact hb),?_,?_⟩
  . rw[Yloc];exact Og (NV (fpD b hb) hCle)
  . rw[Yfs];intro z;rcases Ot.mp (I2.gB b z) with q | q
    . exact(f2 b hb).2.1 q
    . exact(f2 b hb).2.2.1 q
  . intro x c e z;rw[Yenv] at e;exact(c1 x c e).elim (λw=>(f2 b hb).2.2.2.2.1 x c w.2 z) (λw=>absurd (NV (fpD b hb) (N5 (SN hCle) (z ▸ w.2.1))) (OT _))
  . intro p hp';rcases ON.mp hp' with q | q
    . rw[Ypn] at q;exact(f2 b hb).2.2.2.2.2 p q
    . intro z;have:=hp p q;rw[z] at this;exact absurd (NV (fpD b hb) this) (OT _)
 have Dfs:D ∉ Y.fs:=by
  rw[Yfs];intro z;rcases Ot.mp (I2.gB D z) with q | q
  . exact absurd hLD (by rw[q];exact OT _)
  . exact I2.Ar (by rw[hDe];exact NS _) q
 have loop:Si (Of X.prog X.w) X.A (.compLoop (.ListComp elt [⟨tg,iter,ifs,0⟩] scope pos) 0 (.ref it) (.ref D) (Pg scope cl' C X.env)) (RR (.ref D) C) { s2 with heap:=h₁,toks:=s2.toks}:=by
  refine jH (λn s'=> ∃ i ys H' ak k,Inv Y [(D,{ cls:= .type "list",data:= .seq ak k})] (σ ++NM vars.length NI) H' s'/\tn i s'.heap/\(∀ b∈fp,H' b=NI)/\W i n ys H'/\Vals ys ak.toList/\ys.length<=NZ) ?_ m0
   ⟨0,[],H2,_,0,IY0.cP (λp hp=>?_),st1,λb hb=>(f2 b hb).1,w0,.nil,OU _⟩
  . rintro n s3 ⟨i,ys,H3,ak,k,I3,st3,fr3,w3,hv,hlen⟩;rcases turn i n ys H3 w3 with⟨stop,q⟩ | ⟨go,hlt,step⟩
    . have d:=T.done Y Yprog Yw YK Ycalm i _ s3 _ H3 (Tp (Of X.prog X.w) X.A (Pg scope cl' C X.env) λe s'=>RR (.ref D) C (.error e) s') I3 (fpY fr3 (by intro p hp;rw[Od.mp hp];exact NS _)) st3 stop;rw[YA] at d;refine Oj d (λr s4 hr=>?_) λ_ _ z=>z;obtain⟨rfl,I4⟩:=hr;obtain⟨eD,nD,_,_,_⟩:=I4.pin (D,_) (N9 _ N1);dsimp only at eD nD;obtain⟨m,hnC,_⟩:=I4.loc;rw[Yloc] at hnC;have hb4:=I4.base;rw[Yfs,Yex,YH0,Ys0] at hb4;have hok4:=I4.aW;rw[Yprog,Yw] at hok4;have hCf:=I4.free;rw[Yloc] at hCf;have neD: ∀ b o,s2.heap.get? b=NG o->b≠D:=λb o e=>by rw[<- hDe];exact Og (NY e)
      have IX:Inv X pins σ (upd H3 D (.lst ys)) s4:=by
       refine I2.lN (ch:=fp) (I4.os.trans (by rw[Ys0])) ⟨hb4.keep,hb4.slot,λb o e n hx'=>?_,hb4.there,λb xs e=>?_,λb o u e=>?_,λb ps e=>?_⟩ (λb u e=>?_) I4.bare (λb hb'=>?_)
       . rw[aq (neD b o e)];exact hb4.free b o e n hx'
       . rw[aq (ao (hb4.fW b xs e) nD)];exact hb4.fW b xs e
       . rw[aq (ao (hb4.fm b o u e) nD)];exact hb4.fm b o u e
       . obtain⟨more,e'⟩:=hb4.gH b ps e;exact⟨more,by rw[aq (ao e' nD)];exact e'⟩
       . by_cases hbD:b=D
         . subst hbD;rw[aT] at e;cases e;exact⟨hlen,ak.toList,k,hv,by simpa using eD⟩
         . rw[aq hbD] at e;exact(hok4 b u e).iO (λc v _ z=>z) (λc z=>by rw[aq (ao z nD)];exact z) λc xs z=>by rw[aq (ao z nD)];exact z
       . have f:=f2 b hb';exact⟨f.2.2.2.1,f.2.1,f.2.2.2.2.1,f.2.2.2.2.2⟩
      refine hRR D C s4 H3 ys m IX hnC nD (by rw[aq (PX hDC)];exact hCf) (Q2 (NV hLD hCle)) (N5 hD0 hCle) (λx c e=>Og (NV (cllt x c e) hCle)) (λp hp=>Og (NV (pnlt p hp) hCle)) (q D nD)
    . have d:=T.item Y Yprog Yw YK Ycalm i _ s3 _ H3 (Tp (Of X.prog X.w) X.A (Pg scope cl' C X.env) λe s'=>RR (.ref D) C (.error e) s') I3 (fpY fr3 (by intro p hp;rw[Od.mp hp];exact NS _)) st3 go;rw[YA] at d;refine Oj d (λr s4 hr=>?_) λ_ _ z=>z;obtain⟨u,rfl,h4⟩:=hr;refine Oj h4 (λ_ s5 h5=>?_) λ_ _ z=>z;obtain⟨x,H5,I5,r5,y5,st5,fr5⟩:=h5;have I5':=I5.pinned (fpY fr5 (by intro p hp;rw[Od.mp hp];exact NS _)) (T.obj _ _ st5);have a1:=hg _ s5 _ H5 x u _ I5' r5 (hgk _ _ _ _ (step x H5 y5));rw[Yprog,Yw,YA,Yenv] at a1;refine Oj a1 (λ_ s6 h6=>?_) λ_ _ z=>noE z;obtain⟨σ6,H6,I6,q6,k6⟩:=h6;have a2:=hf _ s6 σ6 H6 _ I6 q6;rw[Yprog,Yw,YA,Yenv] at a2;have back: ∀{pl:List (NQ × Obj)}{H':Hp}{s':NO},Inv Y pl σ6 H' s'->Inv Y pl (σ ++NM vars.length NI) H' s':=λ{pl H' s'} I'=>by
       refine I'.weak ?_ λj v e=>?_
       . rw[I'.len,<- I3.len]
       . by_cases hj:j < σ.length
         . rw[k6 j (by rw[<- I2.len];exact hj)];exact e
         . rw[Oz (Qg.mp hj),Pk] at e;split at e<;>cases e
      refine Oj a2 (λok s7 h7=>?_) λ_ _ z=>noE z;obtain⟨H7,I7,q7⟩:=h7;cases ok with
      | false =>
       rw[if_neg N6] at q7
       unfold qc
       rw[if_neg (show ¬ false=true from N6)]
       obtain⟨m',hm',w7⟩:=q7
       refine⟨m',hm',i+1,ys,H7,ak,k,(back I7).cP (λp hp=>I7.pin p (N9 _ (O4 _ hp))),T.keep _ _ _ st5 λb hb' o e=>(I7.pin (b,o) (N9 _ (N9 _ (cM hb' e)))).1,λb hb'=>?_,w7,hv,hlen⟩
       obtain⟨o,e,_⟩:=T.obj _ _ st5 b hb'
       exact(I7.pin (b,o) (N9 _ (N9 _ (cM hb' e)))).2.1
      | true =>
       rw[if_pos rfl] at q7
       unfold qc
       rw[if_pos (show true=true from rfl)]
       have a3:=he _ s7 σ6 H7 _ I7 q7
       rw[Yprog,Yw,YA,Yenv] at a3
       refine Oj a3 (λy s8 h8=>?_) λ_ _ z=>noE z
       obtain⟨v,H8,I8,r8,m',hm',w8⟩:=h8
       obtain⟨eD,nD,neL,nfD,dD⟩:=I8.pin (D,_) (N9 _ (O4 _ N1))
       dsimp only at eD nD neL nfD dD
       refine append_at (hsz:=by have:=hv.length;simp at this;omega) eD λh9 hs9 e9=>?_
       have st8:tn (i+1) s8.heap:=T.keep _ _ _ st5 λb hb' o e=>(I8.pin (b,o) (N9 _ (N9 _ (cM hb' e)))).1
       have fr8: ∀ b∈fp,H8 b=NI:=λb hb'=>by
        obtain⟨o,e,_⟩:=T.obj _ _ st5 b hb';exact(I8.pin (b,o) (N9 _ (N9 _ (cM hb' e)))).2.1
       have I8':Inv Y [] (σ ++NM vars.length NI) H8 s8:=(back I8).cP λp hp=>nomatch hp
       have I9:=I8'.turned (it:=D) (h':=h9) (t':=s8.toks) (λb o hb' e=>hs9.extBut b o hb' e) nD neL (.inr (by rw[Ys0,hDe];exact NS _)) (λx c e=>Ycell x c e) (λp hp=>by
        rw[Ov,Ypn] at hp;exact Og (pnlt p hp))
       refine⟨m',hm',i+1,ys++[v],H8,ak.push y,k+1,I9.cP (λp hp=>?_),T.keep _ _ _ st8 λb hb' o e=>hs9.extBut b o (Og (fpD b hb')) e,fr8,w8,?_,?_⟩
       . obtain rfl:=Od.mp hp;exact⟨e9,nD,neL,nfD,λv=>by simp⟩
       . rw[Array.toList_push];exact Vals.append hv (.cons r8 .nil)
       . rw[NX,TN];exact hlt
  . obtain rfl:=Od.mp hp;refine⟨hacc,I2.aW.fresh (by rw[hDe];exact NS _),?_,Dfs,λv=>by simp⟩;rw[Yloc];exact hDC
 exact codeAny_compStart_list loop (T.self _ 0 _ _ _ st1 loop)
end
section
variable {X:Cx} {scope:Q5} {vars:List Str} {elt tg iter:Ou} {ifs:List Ou} {pos spos py:Pos} {wi:TI} {g:TG} {tt:TT} {te:TE} {i:Nat} {y:Str}
theorem ot{pins : List (NQ × Obj)}{σ : St}{H2 H4 : Hp}{s2 s4 : NO}{fp : List NQ}{x C Cc dx : NQ}{m : Str -> Option NJ}{EX : XK}{use : Option (NJ -> Sem Unit)}{Q : NJ -> NO -> Prop}{acc : NJ}(hp : dY X EX)(I2 : Inv X pins σ H2 s2)(f2 : ∀ b ∈ fp, jN X pins H2 b)
    (os : s4.os = s2.os) (bare : Q1 s4.gens) (un : Un (ez X.stack) fp H2 H4 s2.heap s4.heap) (aW : fb X.prog X.w H4 s4.heap) (fr : ∀ b ∈ ez X.stack, H4 b = NI /\ ∃ o, s4.heap.get? b = NG o /\ ∀ vs, o.data ≠ .fields vs) (F : ji s2.heap.objs.size H4 s4.heap x Cc dx) (hE : EX (.ref Cc) (NG dx) H4)
    (hn : s4.heap.Ns C m) (nC : H4 C = NI) (hC : s2.heap.objs.size <= C) (CF : C ∉ ez X.stack) : compPost (Of X.prog X.w) X.A X.xe use Q acc C (.error (.ref x)) s4 := by
  refine ⟨m, hn, λh' sb cenv _ => ?_⟩;obtain ⟨oC, eC, _, hoC, hdC, _⟩ := id hn;obtain ⟨oe, vs, e1, e2, e3, e4, e5, e6, T, oT, ts, fl, a1, a2, a3, a4, a5, a6, a7⟩ := id F;have xC : x ≠ C := λz => by rw [z, hoC] at e1; cases e1; rw [hdC] at e4; cases e4
  have TC : T ≠ C := λz => by rw [z, hoC] at a5; cases a5; rw [hdC] at a6; cases a6
  have p0 : eQ s2.heap.objs.size H4 (ez X.stack) s4.heap h' := ⟨λb o e p nb => (sb.2 b λz => by subst z; exact p.elim (λq => absurd q (Qg.mpr hC)) λq => q nC).trans e, λb o e hb => ⟨o.slots, (sb.2 b λz => CF (z ▸ hb)).trans e⟩, Te sb.1.symm⟩
  have ex := (sb.2 x xC).trans e1;have F' : ji s2.heap.objs.size H4 h' x Cc dx := ⟨oe, vs, ex, e2, e3, e4, e5, e6, T, oT, ts, fl, a1, a2, a3, a4, (sb.2 T TC).trans a5, a6, a7⟩
  unfold PySem.passOn;refine NL (Qr ex e4 a1 ?_);rw [if_neg (show ¬ ((Oe T == OW) = true) from by simp)];have go : Ob (Of X.prog X.w) X.A (So (.ref x) cenv.frame) (λ_ s5 => Ob (Of X.prog X.w) X.A (throw (.ref x) : Sem NJ) (λ_ _ => False) X.xe s5) X.xe { s4 with heap := h'} := by
    refine xR (s := { s4 with heap := h'}) (fs := ez X.stack) (λb hb => ?_) F' λh2 p2 F2 => wpAny_throw ?_
    . obtain ⟨_, o, ho, hnf⟩ := fr b hb;exact ⟨o, (sb.2 b λz => CF (z ▸ hb)).trans ho, hnf⟩
    have p := p0.trans p2;exact hp pins σ H2 s2 _ _ fp I2 (λb hb => let f := f2 b hb; ⟨f.2.2.2.1, f.2.1, f.2.2.2.2.1, f.2.2.2.2.2⟩) ⟨x, Cc, dx, H4, rfl, os, bare, p.un un (NS _) (λb hb => .inl hb) λb hb => hb, p.aW (λb hb => (fr b hb).1) aW, F2.Lq, hE⟩
  first
    | exact NL (N2 (NL go))
    | exact NL go
def xY(X:Cx)(EX:XK):Prop:=(∀ c d H,¬ EX c d H)\/ ∃ iC out0 L,X.stack=iC::out0/\iC.frame=NG L/\X.env.frame=NG L
theorem k4(vars:List Str)(hc:X.calm=true){EX:XK}(hp:dY X EX)(hst:xY X EX)(hkind:scope.kind= .function)(hlc:da scope.names X.env.scope.names X.N vars=true)(hi:PI X tg iter wi)
  (hb: ∀ cl C s₀ H₀ ex pn E',dY ((bQ X vars scope cl C s₀ H₀ ex pn).a0 E') EX->PG ((bQ X vars scope cl C s₀ H₀ ex pn).a0 E') tg g/\PF ((bQ X vars scope cl C s₀ H₀ ex pn).a0 E') ifs tt/\PE ((bQ X vars scope cl C s₀ H₀ ex pn).a0 E') elt te) (hgk:GK X.N.length g)
  (hs: ∀ x,Oq iter X.env x=pure x:=by intro _;rfl):PE X (.ListComp elt [⟨tg,iter,ifs,0⟩] scope pos) (G9 vars.length wi g tt te):=by
 intro pins s σ H Q I h;obtain⟨cl,hcl,hc1,hc2⟩:=kq (env:=X.env) (scope:=scope) λp hp hf=>I.ok.has p.1 ((fR (X:=X) hlc p hp).2.1 hf);rw[eval_ListComp];refine SX (use:=NI) rfl hs hcl hkind (λp hp=>(fR (X:=X) hlc p hp).2.2) ?_;refine Oj (hi pins s σ H _ I h) (λv s1 h1=>Oj h1 (λitv s2 h2=>?_) λ_ _ z=>z) λ_ _ z=>z;obtain⟨it,fp,tn,J,H2,rfl,I2,T,st2,f2,W,⟨m0,w0⟩,turn⟩:=h2;refine jM (Q:=Q) (RR:=λacc C=>compPost (Of X.prog X.w) X.A X.xe NI (EP X pins σ Q) acc C) hc hst hkind hlc hb hgk hc1 hc2 I2 T st2 f2 w0 turn ?_ λD C s4 H4 x Cc dx m h1 h2 h3 h4 h5 h6 h7 h8 h9 ha hb'=>ot hp I2 f2 h1 h2 h3 h4 h5 h6 h7 h8 h9 ha hb';intro D C s4 H4 ys m I4 hn nD nC neL hsz hcell hpin q;refine⟨m,hn,λh' hs'=>⟨.ref D,_,I4.turned (it:=C) (t':=s4.toks) (λb o hb e=>hs'.extBut b o hb e) nC neL (.inr hsz) hcell hpin,rfl,q⟩⟩
theorem PE.any{e:Ou}{t:TE}{E:NJ->NO->Prop}(hx: ∀ v s,¬ X.xe v s)(h:PE X e t):PE (X.a0 E) e t:=λpins s σ H Q I q=>Oj (h pins s σ H Q I.bo q) (λu s' ⟨v,H',J,r,z⟩=>⟨v,H',J.a0 E,r,z⟩) λv s z=>(hx v s z).elim
theorem PF.any{ifs:List Ou}{t:TT}{E:NJ->NO->Prop}(hx: ∀ v s,¬ X.xe v s)(h:PF X ifs t):PF (X.a0 E) ifs t:=λpins s σ H Q I q=>Oj (h pins s σ H Q I.bo q) (λu s' ⟨H',J,z⟩=>⟨H',J.a0 E,z⟩) λv s z=>(hx v s z).elim
theorem PG.any{tg:Ou}{g:TG}{E:NJ->NO->Prop}(hx: ∀ v s,¬ X.xe v s)(h:PG X tg g):PG (X.a0 E) tg g:=λpins s σ H x u Q I r q=>Oj (h pins s σ H x u Q I.bo r q) (λ_ s' ⟨σ',H',J,z⟩=>⟨σ',H',J.a0 E,z⟩) λv s z=>(hx v s z).elim
theorem wj:dY X E0:=λ_ _ _ _ _ _ _ _ _ ⟨_,_,_,_,_,_,_,_,_,_,z⟩=>z.elim
theorem ye(vars:List Str)(hc:X.calm=true)(hx: ∀ v s,¬ X.xe v s)(hkind:scope.kind= .function)(hlc:da scope.names X.env.scope.names X.N vars=true)(hi:PI X tg iter wi)
  (hb: ∀ cl C s₀ H₀ ex pn,PG (bQ X vars scope cl C s₀ H₀ ex pn) tg g/\PF (bQ X vars scope cl C s₀ H₀ ex pn) ifs tt/\PE (bQ X vars scope cl C s₀ H₀ ex pn) elt te) (hgk:GK X.N.length g)
  (hs: ∀ x,Oq iter X.env x=pure x:=by intro _;rfl):PE X (.ListComp elt [⟨tg,iter,ifs,0⟩] scope pos) (G9 vars.length wi g tt te) :=
 k4 vars hc wj (.inl λ_ _ _ z=>z) hkind hlc hi (λcl C s₀ H₀ ex pn E' _=>let ⟨a,b,c⟩:=hb cl C s₀ H₀ ex pn;⟨a.any hx,b.any hx,c.any hx⟩) hgk hs
def qG(k i:Nat)(wi:TI)(g:TG)(tt:TT)(te:TE):TS:=λD σ H=>G9 k wi g tt te σ H λv H1=>D.nx (σ.set i (NG v)) H1
theorem kZ(vars:List Str)(i:Nat)(hc:X.calm=true){EX:XK}(hp:dY X EX)(hst:xY X EX)(hkind:scope.kind= .function)(hlc:da scope.names X.env.scope.names X.N vars=true)(hN:X.N.Nodup)(hiy:X.N[i]?=NG y)(hy:Loc X.env.scope y)
  (hi:PI X tg iter wi)
  (hb: ∀ cl C s₀ H₀ ex pn E',dY ((bQ X vars scope cl C s₀ H₀ ex pn).a0 E') EX->PG ((bQ X vars scope cl C s₀ H₀ ex pn).a0 E') tg g/\PF ((bQ X vars scope cl C s₀ H₀ ex pn).a0 E') ifs tt/\PE ((bQ X vars scope cl C s₀ H₀ ex pn).a0 E') elt te) (hgk:GK X.N.length g)
  (hsw:Pt (.ListComp elt [⟨tg,iter,ifs,0⟩] scope pos) (NG (.Name y py)) spos.line X.env=pure true:=by rfl)
  (hs: ∀ x,Oq iter X.env x=pure x:=by intro _;rfl)
  (hf:X.fn y=true\/X.env.scope.names.lookup y=NG .local:=by first | exact .inl rfl | exact .inr rfl | assumption) :
  PS X (.Assign [.Name y py] (.ListComp elt [⟨tg,iter,ifs,0⟩] scope pos) spos) (qG vars.length i wi g tt te):=by
 intro pins s σ H Dn I h;obtain⟨cl,hcl,hc1,hc2⟩:=kq (env:=X.env) (scope:=scope) λp hp hf=>I.ok.has p.1 ((fR (X:=X) hlc p hp).2.1 hf);rw[exec_Assign_Name_used _ _ _ _ hsw];refine NL (R0 (NL ?_));show Ob _ X.A (do let _ <- comprehension (.ListComp elt [⟨tg,iter,ifs,0⟩] scope pos) scope X.env _ (newList []) false (Py iter X.env) (NG (RT (.Name y py) X.env))) _ _ s;refine NL (Oj (SX (use:=NG (RT (.Name y py) X.env)) (Q:=λ_ s'=>SP X pins Dn .next s') rfl hs hcl hkind (λp hp=>(fR (X:=X) hlc p hp).2.2) ?_) (λ_ s' hq=>N2 (N2 hq)) λ_ _ e=>e);refine Oj (hi pins s σ H _ I h) (λv s1 h1=>Oj h1 (λitv s2 h2=>?_) λ_ _ z=>z) λ_ _ z=>z;obtain⟨it,fp,tn,J,H2,rfl,I2,T,st2,f2,W,⟨m0,w0⟩,turn⟩:=h2;refine jM (Q:=λv H1=>Dn.nx (σ.set i (NG v)) H1) (RR:=λacc C=>compPost (Of X.prog X.w) X.A X.xe (NG (RT (.Name y py) X.env)) (λ_ s'=>SP X pins Dn .next s') acc C) hc hst hkind hlc hb hgk hc1 hc2 I2 T st2 f2 w0 turn ?_ λD C s4 H4 x Cc dx m h1 h2 h3 h4 h5 h6 h7 h8 h9 ha hb'=>ot hp I2 f2 h1 h2 h3 h4 h5 h6 h7 h8 h9 ha hb';intro D C s4 H4 ys m I4 hn nD nC neL hsz hcell hpin q;show Ob _ X.A (RT (.Name y py) X.env (.ref D)) _ _ s4;refine UX (lx I4 hN hiy hy (v:= .ref D) rfl (λs5 I5 ⟨a,hsb,ha⟩=>?_) hf);have hCa:C≠a:=by
  rcases ha with z | z
  . rw[z];exact neL
  . exact PX (hcell _ _ z)
 refine⟨m,hn.sameBut hsb hCa,λh' hs'=>?_⟩;exact⟨_,_,I5.turned (it:=C) (t':=s5.toks) (λb o hb e=>hs'.extBut b o hb e) nC neL (.inr hsz) hcell hpin,q⟩
theorem wk(vars:List Str)(i:Nat)(hc:X.calm=true)(hx: ∀ v s,¬ X.xe v s)(hkind:scope.kind= .function)(hlc:da scope.names X.env.scope.names X.N vars=true)(hN:X.N.Nodup)(hiy:X.N[i]?=NG y)(hy:Loc X.env.scope y)
  (hi:PI X tg iter wi)
  (hb: ∀ cl C s₀ H₀ ex pn,PG (bQ X vars scope cl C s₀ H₀ ex pn) tg g/\PF (bQ X vars scope cl C s₀ H₀ ex pn) ifs tt/\PE (bQ X vars scope cl C s₀ H₀ ex pn) elt te) (hgk:GK X.N.length g)
  (hsw:Pt (.ListComp elt [⟨tg,iter,ifs,0⟩] scope pos) (NG (.Name y py)) spos.line X.env=pure true:=by rfl)
  (hs: ∀ x,Oq iter X.env x=pure x:=by intro _;rfl)
  (hf:X.fn y=true\/X.env.scope.names.lookup y=NG .local:=by first | exact .inl rfl | exact .inr rfl | assumption) :
  PS X (.Assign [.Name y py] (.ListComp elt [⟨tg,iter,ifs,0⟩] scope pos) spos) (qG vars.length i wi g tt te) :=
 kZ vars i hc wj (.inl λ_ _ _ z=>z) hkind hlc hN hiy hy hi (λcl C s₀ H₀ ex pn E' _=>let ⟨a,b,c⟩:=hb cl C s₀ H₀ ex pn;⟨a.any hx,b.any hx,c.any hx⟩) hgk hsw hs hf
end
theorem xX{lo:Int}{n:Nat}{k:Nat}{g:TG}{tt:TT}{te:TE}{σ :St}{H:Hp}{Q:VK}(Pv:Nat->List V->Hp->Prop)(h0:Pv 0 [] H)(hl: ∀ i ys H,i<=n->Pv i ys H->ys.length<=i)(hz:n<=NZ)
  (hs: ∀ i ys H,i < n->Pv i ys H->g (.int (lo+i)) (σ ++NM k NI) H fun σ2 H2=>tt σ2 H2 λb H3=>if b=true then te σ2 H3 λy H4=>Pv (i+1) (ys++[y]) H4 else Pv (i+1) ys H3)
  (hd: ∀ ys H,Pv n ys H-> ∀ p,H p=NI->Q (.ref p) (upd H p (.lst ys)))
  (gm:mY g) (tm: ∀ σ H Q Q',(∀ b H1,Q b H1->Q' b H1)->tt σ H Q->tt σ H Q') (em: ∀ σ H Q Q',(∀ b H1,Q b H1->Q' b H1)->te σ H Q->te σ H Q') :
  ∃ W:Nat->Nat->List V->Hp->Prop,(∃ m,W 0 m [] H)/\ ∀ i m ys H,W i m ys H ->
 ((uK lo n).stop i H/\ ∀ p,H p=NI->Q (.ref p) (upd H p (.lst ys))) \/
 ((uK lo n).go i H/\ys.length < NZ/\ ∀ x H',(uK lo n).B3 i H x H'->g x (σ ++NM k NI) H' fun σ2 H2=>tt σ2 H2 λb H3 =>
  if b=true then te σ2 H3 λy H4=> ∃ m',m' < m/\W (i+1) m' (ys++[y]) H4 else ∃ m',m' < m/\W (i+1) m' ys H3):=by
 refine⟨λi m ys H=>m=n - i/\i<=n/\Pv i ys H,⟨n,by simp,OU _,h0⟩,?_⟩
 rintro i m ys H ⟨rfl,hi,p⟩
 have hy:=hl i ys H hi p
 by_cases hlt:i < n
 . refine .inr ⟨hlt,by omega,λx H' y=>?_⟩;obtain⟨e,y⟩:=y;subst e y;refine gm _ _ _ _ _ (fun σ2 H2 z=>tm _ _ _ _ (λb H3 z=>?_) z) (hs i ys _ hlt p);cases b with
   | true =>
    rw[if_pos rfl] at z ⊢
    exact em _ _ _ _ (λv H4 w=>⟨n - (i+1),by omega,rfl,hlt,w⟩) z
   | false =>
    rw[if_neg N6] at z ⊢
    exact⟨n - (i+1),by omega,rfl,hlt,z⟩
 . have e:i=n:=by omega
   subst e;exact .inl ⟨NS _,hd ys H p⟩
theorem cj.get(x:cj P w H h a o): ∃ ob,h.get? a=NG ob:=by
 induction o with
 | lst xs=>obtain⟨_,ak,n,_,e⟩:=x;exact⟨_,e⟩
 | tup xs=>obtain⟨_,ak,_,ob,e,_⟩:=x;exact⟨_,e⟩
 | dK kvs=>obtain⟨_,_,vs,_,ob,es,ep,e,_⟩:=x;exact⟨_,e⟩
 | dT kvs=>obtain⟨_,_,xs,_,ob,es,ep,e,_⟩:=x;exact⟨_,e⟩
 | set S n=>obtain⟨ob,es,ep,t,e,_⟩:=x;exact⟨_,e⟩
 | ins C dx fs=>obtain⟨_,_,_,e,_⟩:=x;exact⟨_,e⟩
 | own y=>exact x
 | xd fs=>obtain⟨mA,⟨od,es,ep,e,_⟩,_⟩:=x;exact⟨_,e⟩
 | rng lo hi=>obtain⟨t,u,v,e⟩:=x;exact⟨_,e⟩
 | dw ob u ih=>obtain⟨e,_⟩:=x;exact⟨_,e⟩
 | tbl ps=>exact⟨_,x⟩
 | met f y=>exact⟨_,x⟩
 | ext φ =>obtain⟨_,e,_⟩:=x;exact e
structure HR(K:NH)(C:NQ):Prop where
 cl:gZ K C
 ca:Oc K (.ref C) "__class__" =NG (NG (.builtin "object.__class__"))
theorem E9{prog:Om}{w:OC}{A:OI}{E:NJ->NO->Prop}{s:NO}{K:NH}{x C:NQ}{ox od:Obj}{Q:Option NJ->NO->Prop}(c:HR K C)(X:K.In s.heap)(I:Qo s.heap x ox C (NG od))(h:Q (NG (.ref C)) { s with toks:=s.toks+1}) :
  Ob (Of prog w) A (getAttr? (.ref x) "__class__") Q E s:=by
 have f:PySem.W.findObj K C (NG od) "__class__" =NG (.bind (.builtin "getset_descriptor.__get__") (.builtin "object.__class__")):=PySem.W.findObj_data (by obtain⟨cd,hc,_⟩:=Q3 c.cl.hd;rw[hc];rfl) c.ca rfl rfl;have isB:SW (Of prog w) s.heap (UN (.ref x) (.type "BaseException")) true:=I.type.andThen (Ql X c.cl.bx);unfold getAttr? getAttrBy? getAttrBy;refine NL (wpAny_mkText (NL (UA (Pm (NL (OK (s:={ s with toks:=s.toks+1}) I.type (NL (OK (s:={ s with toks:=s.toks+1}) (PL X c.cl.ga) ?_))))))));show Ob _ _ (if (Vo (Oe C)&&P1 "BaseException.__getattribute__" == P1 "object.__getattribute__")=true then _ else _) _ _ _;rw[if_neg (by rw[show(P1 "BaseException.__getattribute__" == P1 "object.__getattribute__")=false from by decide +kernel,P6];decide)];unfold VF hookBefore;rw[if_pos (show Vo (Oe C)=true from rfl)];refine NL (OK (s:={ s with toks:=s.toks+1}) (PL X c.cl.gt) (NL (UA (Pm ?_))));unfold Vp;rw[if_neg (by decide)];unfold boundAndCalled;rw[Qp.ga.bind];refine NL (N2 (Ss ?_));refine R4 Qp.ga.plain TQ (@Sx (Of prog w) _ _ { s with toks:=s.toks+1} "BaseException.__getattribute__" "BaseException" "__getattribute__" (.ref x) [.str "__class__" s.toks] [] _ (by decide +kernel) (by decide +kernel) isB (T2 _ _) ?_);unfold To.«object.__getattribute__»;refine NL (N2 (NL (N2 (NL (OK (s:={ s with toks:=s.toks+1}) I.type (NL (OK (s:={ s with toks:=s.toks+1}) (UO X I f) ?_)))))));show Ob _ _ (RZ [P1 "object.__class__"] (call (.builtin "getset_descriptor.__get__") [.builtin "object.__class__",.ref x,.ref C]) >>= ret) _ _ _;refine NL (Pm (Ss (PySem.W.class_get (s:={ s with toks:=s.toks+1}) (ox:=ox) (od:=NG od) X I c.cl.ob (N2 ?_))));show Ob _ _ (handedOut (.ref C)) _ _ _;rw[T3 rfl];exact N2 (N2 h)
theorem pq{K:NH}{x C:NQ}{ox od:Obj}(c:HR K C):PySem.W.KitX K (.ref x) (.ref C) (λh=>Qo h x ox C (NG od)):=by
 obtain⟨cd,hc,_⟩:=Q3 c.cl.hd;unfold SV at hc;split at hc
 . rename_i ho;refine⟨λ_ _ _ I=>I.type,λ_ _ X _ A' Q' E' s' k q=>?_,λh tp dd ak n sl X htp=>Bool.eq_false_iff.mpr λq=>?_,λX I k=>E9 c X I k⟩
   . unfold isType loadHead;exact NL (T1 (k _ _ (X _ _ ho)) (N2 q))
   . cases(Value.ref.inj (beq_iff_eq.mp q):C=tp);have z:=(X _ _ ho).symm.trans htp;cases z
 . cases hc
theorem kj{X:Cx}{pins:List (NQ × Obj)}{σ :St}{H:Hp}{s:NO}{x C:NQ}{fs:List (Str × V)}(I:Inv X pins σ H s)(t:Jb H x C fs): ∃ dx od av sl mA,s.heap.get? x=NG ⟨.ref C,NG dx,.fields av,sl⟩/\s.heap.get? dx=NG od/\s.heap.Ns1 dx mA/\(∀ f,eY (fs.lookup f) (mA f))/\Qo s.heap x ⟨.ref C,NG dx,.fields av,sl⟩ C (NG od):=by
 obtain⟨oe,dx,od,av,h1,h2,h3,h4,h5⟩:=t;obtain⟨oc,odd,odt,osl⟩:=oe;dsimp only at h2 h3 h4;subst h2 h3 h4;obtain⟨e1,_⟩:=I.aW x _ h1;obtain⟨e2,mA,ns,r⟩:=I.aW dx _ h5;exact⟨dx,od,av,osl,mA,e1,e2,ns,r,e1,rfl,rfl,e2⟩
section
variable{X:Cx}{e ce:Ou}{es:List Ou}{te:TE}{t:TA}{p pos:Pos}{f:Str}
noncomputable def Cv(K:NH)(te:TE)(f:Str):TE:=fun σ H Q=>te σ H λv H1=> ∃ x C fs y,v= .ref x/\Jb H1 x C fs/\gZ K C/\Oc K (.ref C) f=NG NI/\fs.lookup f=NG y/\Q y H1
theorem Al(he:PE X e te)(hb:Qe e f X.env (Py e X.env)=Py e X.env):PE X (.Attribute e f pos) (Cv X.K te f):=by
 intro pins s σ H Q I h;refine A0 hb (fB (he pins s σ H _ I h) λu s1 ⟨v,H1,I1,r,x,C,fs,y,ev,t,c,na,l,q⟩=>?_);subst ev;obtain rfl:u=Oe x:=r;obtain⟨dx,od,av,sl,mA,e1,e2,ns,rl,_⟩:=kj I1 t;obtain⟨w,hw,rw'⟩:=eY.some_of (v:=y) (o:=mA f) (by rw[<- l];exact rl f);exact L0 I1.qA e1 ns c na hw (tf rw') ⟨y,H1,I1.tok _,rw',q⟩
def GJ(K:NH)(H:Hp)(cs:List NJ)(v:V)(b:Bool):Prop:= ∃ x C fs,v= .ref x/\Jb H x C fs/\HR K C/\P7 K (.ref C) cs=NG b
theorem AI{K:NH}{t c:NJ}{b:Bool}(h:P7 K t [c]=NG b):PySem.W.kitOne K t c=NG b:=by
 unfold P7 at h;split at h
 . rename_i z;rw[z];exact h
 . rename_i z;rw[z];exact h
 . cases h
def IP(K:NH)(cv:V)(c:NJ):List V->Hp->VK->Prop:=λxs H Q=> ∃ v b,xs=[v,cv]/\GJ K H [c] v b/\Q (.bl b) H
theorem lO{cv:V}{c:NJ}(hc: ∀ u,RelV cv u->u=c):aP X (.builtin "isinstance") (IP X.K cv c):=by
 rintro pins s σ H xs us Q I r ⟨v,b,rfl,⟨x,C,fs,rfl,t,ci,k⟩,q⟩;obtain⟨u,u2,rfl,ru,ru2⟩:=vals2 r;obtain rfl:u=Oe x:=ru;rw[hc _ ru2];obtain⟨dx,od,av,sl,mA,e1,e2,ns,rl,J⟩:=kj I t;exact PySem.W.kia_one (pq ci) I.qA J (AI k) (λz=>nomatch z) λtk=>⟨.bl b,H,I.tok tk,rfl,q⟩
def B7(K:NH)(cvs:List V)(cs:List NJ):List V->Hp->VK->Prop:=λxs H Q=> ∃ v tp b,xs=[v,.ref tp]/\H tp=NG (.tup cvs)/\GJ K H cs v b/\Q (.bl b) H
theorem ua{cvs:List V}{cs:List NJ}(hc: ∀ us,Vals cvs us->us=cs):aP X (.builtin "isinstance") (B7 X.K cvs cs):=by
 rintro pins s σ H xs us Q I r ⟨v,tp,b,rfl,ht,⟨x,C,fs,rfl,t,ci,k⟩,q⟩;obtain⟨u,u2,rfl,ru,ru2⟩:=vals2 r;obtain rfl:u=Oe x:=ru;obtain rfl:u2=Oe tp:=ru2;obtain⟨dx,od,av,sl,mA,e1,e2,ns,rl,J⟩:=kj I t;obtain⟨_,ak,hv,o,ho,hoc,n,hod,hdd⟩:=I.aW tp _ ht;obtain⟨oc,odd,odt,osl⟩:=o;dsimp only at hoc hod hdd;subst hoc hod hdd;exact PySem.W.kia_tup (pq ci) I.qA J ho (by rw[hc ak hv];exact k) (λz=>nomatch z) λtk=>⟨.bl b,H,I.tok tk,rfl,q⟩
end
section
variable{prog:Om}{w:OC}{A:OI}{E:NJ->NO->Prop}{s:NO}
def p7(prog:Om)(w:OC)(h:OQ)(v:NJ)(kv:Key × NJ):= ∃ b o kx n,v= .ref b/\h.get? b=NG o/\o.cls= .type "tuple" /\o.data= .seq #[kx,kv.2] n/\(bH prog w).is kv.1 kx=true
theorem p7.keeps(x:p7 prog w h v kv)(k: ∀ b o,h.get? b=NG o->o.cls= .type "tuple" ->h'.get? b=NG o):p7 prog w h' v kv :=
 by obtain⟨b,o,kx,n,e,g,c,d,r⟩:=x;exact⟨b,o,kx,n,e,k b o g c,c,d,r⟩
end
section
variable{X:Cx}
def HV(H:Hp)(y:V)(kv:Key × V):= ∃ b,y= .ref b/\H b=NG (.tup [kV kv.1,kv.2])
end
def iq(P:Om)(w:OC)(K:NH)(mg:Str->Option NJ)(base:OQ)(x:Str)(k:Nat)(ps:List Str)(sp:Sp):Prop :=
 ∃(f:NQ)(fd:P5),fV P w K mg base (gz P w) k f fd ps sp/\mg x=NG (.ref f)/\OZ K (.ref f)=true/\Binds K fd ps []/\ ∀ us:List NJ,us.length=ps.length->Pw fd ⟨us,[]⟩=pure (ps.zip us)
theorem mP.args{K st}{ps:List Str}(F:mP K x qual st f fd)
  (h: ∀ kV doc pm an cdv ct us,us.length=ps.length->Pw (OA x qual (aS st) (ay st) (ae st) .none kV doc pm an cdv ct) ⟨us,[]⟩=pure (ps.zip us)): ∀ us ,us.length=ps.length->Pw fd ⟨us,[]⟩=pure (ps.zip us):=by
 obtain⟨oc,od,kV,doc,pm,an,cdv,ct,osl,rfl,lk,hcd⟩:=F.ex;exact h kV doc pm an cdv ct
def At(K:NH)(mg:Str->Option NJ) x st:= ∃(f:NQ)(fd:P5),mP K x x st f fd/\mg x=NG (.ref f)
section
variable{P:Om}{w:OC}{K:NH}{mg:Str->Option NJ}{base:OQ}
theorem At.ok{x:Str}{st:Pn}{N ps:List Str}{k:Nat}{sp:Sp}(a:At K mg x st)(S:br N ps (ae st))
  (hb: ∀(kV doc pm:NJ)(an:Option NQ)(cdv ct:NJ)(us:List NJ),us.length=ps.length->Pw (OA x x (aS st) (ay st) (ae st) .none kV doc pm an cdv ct) ⟨us,[]⟩=pure (ps.zip us))
  (len: ∀ vs H Q E,sp vs H Q E->vs.length=ps.length)
  (hbody: ∀(f:NQ)(cdv:NJ)(A:OI)(outer:List Env)(s:NO)(H:Hp)(vs:List V)(Q:VK)(E:XK),bZ k (A.deeper (QU x (ae st) s.heap.objs.size f cdv))->sp vs H Q E ->
   ∃ t,kO (cJ (gz P w) P w K mg base N x (ae st) f cdv A outer s H E).c8 (ay st) t/\t { nx:=λ_ H'=>Q .non H',rt:=Q} (start N vs) H):iq P w K mg base x (k+1) ps sp:=by
 obtain⟨f,fd,F,hm⟩:=a;exact⟨f,fd,F.Np S len λcdv A outer s H vs Q E=>hbody f cdv A outer s H vs Q E,hm,F.kp,F.binds hb,F.args hb⟩
theorem At.G6{x:Str}{st:Pn}{N ps:List Str}{k:Nat}{sp:Sp}(a:At K mg x st)(S:br N ps (ae st))
  (hb: ∀(kV doc pm:NJ)(an:Option NQ)(cdv ct:NJ)(us:List NJ),us.length=ps.length->Pw (OA x x (aS st) (ay st) (ae st) .none kV doc pm an cdv ct) ⟨us,[]⟩=pure (ps.zip us))
  (len: ∀ vs H Q E,sp vs H Q E->vs.length=ps.length)
  (hbody: ∀(f:NQ)(cdv:NJ)(A:OI)(outer:List Env)(s:NO)(H:Hp)(vs:List V)(Q:VK)(E:XK),bZ k (A.deeper (QU x (ae st) s.heap.objs.size f cdv))->sp vs H Q E ->
   ∃ t,kO (cJ (gz P w) P w K mg base N x (ae st) f cdv A outer s H E) (ay st) t/\t { nx:=λ_ H'=>Q .non H',rt:=Q} (start N vs) H):iq P w K mg base x (k+1) ps sp:=by
 obtain⟨f,fd,F,hm⟩:=a;exact⟨f,fd,F.G6 S len λcdv A outer s H vs Q E=>hbody f cdv A outer s H vs Q E,hm,F.kp,F.binds hb,F.args hb⟩
theorem At.sU{st}(a:At K mg x st)(hb: ∀ (kV doc pm) (an) (cdv ct) (us),us.length=ps.length->Pw (OA x x (aS st) (ay st) (ae st) .none kV doc pm an cdv ct) ⟨us,[]⟩=pure (ps.zip us))
  (no: ∀ vs H Q E,¬ sp vs H Q E):iq P w K mg base x 0 ps sp:=by
 obtain⟨f,fd,F,hm⟩:=a;exact⟨f,fd,⟨λvs H Q E h=>absurd h (no vs H Q E),λA outer s H args us vs Q E _ _ _ _ h=>absurd h (no vs H Q E)⟩,hm,F.kp,F.binds hb,F.args hb⟩
end
section
variable{X:Cx}{x:Str}{k j:Nat}{ps:List Str}{sp:Sp}{e:Ou}{es:List Ou}{t:TA}{p pos:Pos}
theorem LW(D:iq X.prog X.w X.K X.mg X.base x j ps sp)(hr:bZ k X.A)(hg:Gl X x)(hj:j<=k)(ha:PA X (e::es) t)(hdb:(x == ("__debug__" :Str))=false:=by decide)
  (he:Oy (e::es) X.env=(false,Py e X.env)::Oy es X.env:=by rfl) (hpl:(Ro pos (Oy es X.env)).any (·.1)=false:=by rfl):PE X (.Call (.Name x p) (e::es) [] pos) (pd sp [] E0 t):=by
 obtain⟨f,fd,F,hm,kp,bd,_⟩:=D;exact rO F (hr.mono hj) hg hm kp bd .nil Ip ha hdb he hpl
theorem HW{E:XK}(hx:Passes (gz X.prog X.w) X E)(D:iq X.prog X.w X.K X.mg X.base x j ps sp)(hr:bZ k X.A)(hg:Gl X x)(hj:j<=k)(ha:PA X (e::es) t)(hdb:(x == ("__debug__" :Str))=false:=by decide)
  (he:Oy (e::es) X.env=(false,Py e X.env)::Oy es X.env:=by rfl) (hpl:(Ro pos (Oy es X.env)).any (·.1)=false:=by rfl):PE X (.Call (.Name x p) (e::es) [] pos) (pd sp [] E t):=by
 obtain⟨f,fd,F,hm,kp,bd,_⟩:=D;exact rO F (hr.mono hj) hg hm kp bd .nil hx ha hdb he hpl
end
theorem Jp{K st kV}(X:K.In h)(G:h.Ns Ox mg)
  (a:O8 K Ox x=NG (NG (.ref f))) (l:K.lookup f=NG ⟨oc,od,.func (OA x x (aS st) (ay st) (ae st) .none kV doc pm an cdv ct),osl⟩) (c:R8 K cdv x=true) (k:OZ K (.ref f)=true):At K mg x st :=
 ⟨f,_,vL l c k,Ph X G a⟩
structure Bl(mg:Str->Option NJ):Prop where
 len:mg "len" =NI
 range:mg "range" =NI
 isinstance:mg "isinstance" =NI
 int:mg "int" =NI
 bool:mg "bool" =NI
 tuple:mg "tuple" =NI
 dict:mg "dict" =NI
 sorted:mg "sorted" =NI
 min:mg "min" =NI
 max:mg "max" =NI
 abs:mg "abs" =NI
def Kp a (H H':Hp):= ∀ b o,b≠a->H b=NG o->H' b=NG o
theorem Kp.trans(x:Kp a H H1)(y:Kp a H1 H2):Kp a H H2:=λb o n h=>y b o n (x b o n h)
theorem hU.kp(x:hU H H'):Kp a H H':=λb o _ h=>x b o h
theorem Kp.st:Kp a H (upd H a o):=λb u n q=>by rw[aq n];exact q
theorem Kp.lst{a b H H' K xs kvs}(x:Kp a H H')(ha:H a=NG (.dK kvs))(h:d9 K H b xs):d9 K H' b xs:=by
 rcases h with(h | ⟨o,h⟩) | h
 . exact .inl (.inl (x _ _ (lW h ha (by simp_all)) h))
 . exact .inl (.inr ⟨o,x _ _ (lW h ha (by simp_all)) h⟩)
 . exact .inr h
theorem Kp.tup{a b H H' xs kvs}(x:Kp a H H')(ha:H a=NG (.dK kvs))(h:H b=NG (.tup xs)):H' b=NG (.tup xs):=x _ _ (lW h ha (by simp_all)) h
class pe (t:TE):Prop where
 m: ∀ σ H Q Q',(∀ x H1,Q x H1->Q' x H1)->t σ H Q->t σ H Q'
class o9 (t:TT):Prop where
 m: ∀ σ H Q Q',(∀ x H1,Q x H1->Q' x H1)->t σ H Q->t σ H Q'
class M5 (t:TA):Prop where
 m: ∀ σ H Q Q',(∀ x H1,Q x H1->Q' x H1)->t σ H Q->t σ H Q'
class MD (t:TO):Prop where
 m: ∀ σ H Q Q',(∀ x H1,Q x H1->Q' x H1)->t σ H Q->t σ H Q'
class M3 (t:TI):Prop where
 m: ∀ σ H Q Q',(∀ x H1,Q x H1->Q' x H1)->t σ H Q->t σ H Q'
class M7 (r:R2):Prop where
 m: ∀ x y H Q Q',(∀ x H1,Q x H1->Q' x H1)->r x y H Q->r x y H Q'
class Mj (r:V->Hp->VK->Prop):Prop where
 m: ∀ x H Q Q',(∀ x H1,Q x H1->Q' x H1)->r x H Q->r x H Q'
class Mq (r:List V->Hp->VK->Prop):Prop where
 m: ∀ x H Q Q',(∀ x H1,Q x H1->Q' x H1)->r x H Q->r x H Q'
class M8 (r:V->List V->Hp->VK->Prop):Prop where
 m: ∀ x xs H Q Q',(∀ x H1,Q x H1->Q' x H1)->r x xs H Q->r x xs H Q'
class MH (r:V->Option Int->Option Int->Hp->VK->Prop):Prop where
 m: ∀ x l u H Q Q',(∀ x H1,Q x H1->Q' x H1)->r x l u H Q->r x l u H Q'
class LU (sp:Sp):Prop where
 m: ∀ vs H Q Q' E,(∀ x H1,Q x H1->Q' x H1)->sp vs H Q E->sp vs H Q' E
section
variable{X:Cx}
def Ka(K:NH):List V->Hp->VK->Prop:=λxs H Q=> ∃ p ys,xs=[.ref p]/\(d9 K H p ys\/fk K H p ys)/\Q (.int ys.length) H
def Ju:List V->Hp->VK->Prop:=λxs H Q=> ∃ z,xs=[.str z]/\z.length<=NZ/\Q (.int z.length) H
theorem zR:aP X (.builtin "len") (λxs H Q=>Ka X.K xs H Q\/Ju xs H Q):=nh.or l7
def HF:List V->Hp->VK->Prop:=λxs H Q=>(∃ i,xs=[.int i]/\Q (.int i) H)\/ ∃ k,xs=[.bl k]/\Q (.int (if k then 1 else 0)) H
def Ep(K:NH):List V->Hp->VK->Prop:=λxs H Q=> ∃ p ys,xs=[.ref p]/\((d9 K H p ys/\ ∀ l,H l=NI->Q (.ref l) (upd H l (.tup ys)))\/(fk K H p ys/\Q (.ref p) H))
theorem yZ:aP X (.type "int") HF:=uF
theorem yI:aP X (.type "tuple") (Ep X.K):=kC
end
structure F5(D D':Ends):Prop where
 nx: ∀ σ H,D.nx σ H->D'.nx σ H
 rt: ∀ v H,D.rt v H->D'.rt v H
 bk: ∀ σ H,D.bk σ H->D'.bk σ H
 ct: ∀ σ H,D.ct σ H->D'.ct σ H
class Mz (t:TS):Prop where
 m: ∀ D D' σ H,F5 D D'->t D σ H->t D' σ H
class oG (g:TG):Prop where
 m: ∀ x σ H Q Q',(∀ σ2 H2,Q σ2 H2->Q' σ2 H2)->g x σ H Q->g x σ H Q'
class Lh (g:yn):Prop where
 m: ∀ x σ H Q Q',(∀ σ2 H2,Q σ2 H2->Q' σ2 H2)->g x σ H Q->g x σ H Q'
theorem zE{lo:Int}{n:Nat}{k:Nat}{g:TG}{tt:TT}{te:TE}[oG g][o9 tt][pe te]{σ :St}{H:Hp}{Q:VK}(Pv:Nat->List V->Hp->Prop)(h0:Pv 0 [] H)(hl: ∀ i ys H,i<=n->Pv i ys H->ys.length<=i)(hz:n<=NZ)
  (hs: ∀ i ys H,i < n->Pv i ys H->g (.int (lo+i)) (σ ++NM k NI) H fun σ2 H2=>tt σ2 H2 λb H3=>if b=true then te σ2 H3 λy H4=>Pv (i+1) (ys++[y]) H4 else Pv (i+1) ys H3)
  (hd: ∀ ys H,Pv n ys H-> ∀ p,H p=NI->Q (.ref p) (upd H p (.lst ys))) :
  ∃ W:Nat->Nat->List V->Hp->Prop,(∃ m,W 0 m [] H)∧ ∀ i m ys H,W i m ys H->((uK lo n).stop i H∧ ∀ p,H p=NI->Q (.ref p) (upd H p (.lst ys))) ∨
   ((uK lo n).go i H∧ys.length < NZ∧ ∀ x H',(uK lo n).B3 i H x H'->g x (σ ++NM k NI) H' fun σ2 H2=>tt σ2 H2 λb H3=>if b=true then te σ2 H3 λy H4=> ∃ m',m' < m∧W (i+1) m' (ys++[y]) H4 else ∃ m',m' < m∧W (i+1) m' ys H3):=xX (lo:=lo) (k:=k) (g:=g) (tt:=tt) (te:=te) (σ := σ) (Q:=Q) Pv h0 hl hz hs hd (λx σ H Q Q' f h=>oG.m (g:=g) x σ H Q Q' f h) (o9.m (t:=tt)) (pe.m (t:=te))
noncomputable def stK(a:NQ)(k:Int)(l:Option Int):List (Key × V):=match l with
 | none=>[(.inr "script",.ref a),(.inr "k",.int k)]
 | some l=>[(.inr "script",.ref a),(.inr "k",.int k),(.inr "left",.int l)]
def rD(K:NH)(H:Hp) a (xs:List V):=(∃ o,H a=NG (.dw o (.lst xs))) \/
 ∃(o:Obj)(ak:Array NJ)(n:Nat),K.lookup a=NG o/\o.cls= .type "list" /\o.dict=NI/\o.data= .seq ak n/\ak.size<=NZ/\Vals xs ak.toList
theorem rD.sq{K}(h:rD K H a xs):d9 K H a xs:=by
 rcases h with⟨o,h⟩ | h
 . exact .inl (.inr ⟨o,h⟩)
 . exact .inr h
theorem rD.upd{K}(h:rD K H a xs)(hc:H c=NG u)(hu: ∀ o w,u≠ .dw o w):rD K (upd H c o') a xs:=by
 rcases h with⟨o,h⟩ | h
 . exact .inl ⟨o,by rw[aq (lW h hc λz=>hu _ _ z.symm)];exact h⟩
 . exact .inr h
theorem Kp.dw{st a H H' K xs kvs}(x:Kp st H H')(ha:H st=NG (.dK kvs))(h:rD K H a xs):rD K H' a xs:=by
 rcases h with⟨o,h⟩ | h
 . exact .inl ⟨o,x _ _ (lW h ha (by simp_all)) h⟩
 . exact .inr h
theorem hU.dw{a H H' K xs}(x:hU H H')(h:rD K H a xs):rD K H' a xs:=by
 rcases h with⟨o,h⟩ | h
 . exact .inl ⟨o,x _ _ h⟩
 . exact .inr h
def gX(K:NH) H st k (l:Option Int):= ∃(a:NQ)(ns:List Int),H st=NG (.dK (stK a k l))/\rD K H a (ns.map V.int)/\ns.length<=63/\0<=k
theorem gX.keep{K st}(x:gX K H st k l)(y:Kp st H H')(e:H' st=H st):gX K H' st k l :=
 by obtain⟨a,ns,h1,h2,h3,h4⟩:=x;exact⟨a,ns,e.trans h1,y.dw h1 h2,h3,h4⟩
theorem gX.same{K:NH}{H H':Hp}{st:NQ}{k:Int}{l:Option Int}(x:gX K H st k l)(y:hU H H'):gX K H' st k l :=
 let ⟨a,ns,h1,h2,h3,h4⟩:=x;gX.keep ⟨a,ns,h1,h2,h3,h4⟩ y.kp ((y _ _ h1).trans h1.symm)
theorem gX.upd{K st}(x:gX K H st k l)(hc:H c=NG u)(hu: ∀ o w,u≠ .dw o w)(hn:c≠st):gX K (upd H c o) st k l :=
 by obtain⟨a,ns,h1,h2,h3,h4⟩:=x;exact⟨a,ns,by rw[aq (PX hn)];exact h1,h2.upd hc hu,h3,h4⟩
theorem gX.at{K st}(x:gX K H st k l): ∃ kvs,H st=NG (.dK kvs):=by obtain⟨a,ns,h1,_⟩:=x;exact⟨_,h1⟩
theorem gX.pos{K st}(x:gX K H st k l):0<=k:=by obtain⟨a,ns,h1,_,_,h⟩:=x;exact h
noncomputable def noStar:Ou->Bool
 | .Starred _ _=>false
 | _=>true
theorem aL(h:noStar e=true):Oy (e::es) env=(false,Py e env)::Oy es env:=by
 cases e<;>first | rfl | cases h
theorem dU: ∀{es},es.all noStar=true->(Ro pos (Oy es env)).any (·.1)=false
 | [],_=>rfl
 | e::es,h=>by
  have h:=T5.mp (QD ▸ h);rw[aL h.1];have:=dU (pos:=pos) (env:=env) h.2;exact this
section
variable{X:Cx}{e:Ou}{es:List Ou}{te:TE}{t:TA}
theorem pk(ha:PE X e te)(hr:PA X es t)(hs:noStar e=true:=by rfl):PA X (e::es) (jd te t):=cR ha hr (aL hs)
variable{x:Str}{k j:Nat}{ps:List Str}{sp:Sp}{p pos:Pos}{id T:String}{r:List V->Hp->VK->Prop}
theorem kd(D:iq X.prog X.w X.K X.mg X.base x j ps sp)(hr:bZ k X.A)(hg:Gl X x)(hj:j<=k)(ha:PA X (e::es) t)(hdb:(x == ("__debug__"))=false:=by decide)(he:noStar e=true:=by rfl)(hpl:es.all noStar=true:=by rfl) :
  PE X (.Call (.Name x p) (e::es) [] pos) (pd sp [] E0 t):=LW D hr hg hj ha hdb (aL he) (dU hpl)
theorem kB(hc:aP X (.builtin id) r)(hg:Gl X x)(hm:X.mg x=NI)(hv:OX x=NG (.builtin id))(ha:PA X (e::es) t)(hn:x≠ "__name__" :=by decide)(hdb:(x == ("__debug__"))=false:=by decide)(he:noStar e=true:=by rfl)(hpl:es.all noStar=true:=by rfl) :
  PE X (.Call (.Name x p) (e::es) [] pos) (Aj r t):=ie hc hg hm hv ha hn hdb (aL he) (dU hpl)
theorem kT(hc:aP X (.type T) r)(hg:Gl X x)(hm:X.mg x=NI)(hv:OX x=NG (.type T))(ha:PA X (e::es) t)(hn:x≠ "__name__" :=by decide)(hdb:(x == ("__debug__"))=false:=by decide)(he:noStar e=true:=by rfl)(hpl:es.all noStar=true:=by rfl) :
  PE X (.Call (.Name x p) (e::es) [] pos) (Aj r t):=tO hc hg hm hv ha hn hdb (aL he) (dU hpl)
end
structure QE(X:Cx)(e:Ou)(t:TE):Prop where h:PE X e t
structure QT(X:Cx)(e:Ou)(t:TT):Prop where h:PT X e t
structure QW(X:Cx)(e:Ou)(t:TT):Prop where h:PW X e t
structure QA(X:Cx)(es:List Ou)(t:TA):Prop where h:PA X es t
structure QO(X:Cx)(e:Option Ou)(t:TO):Prop where h:PO X e t
structure QS(X:Cx)(s:Pn)(t:TS):Prop where h:PS X s t
structure yf(X:Cx)(s:List Pn)(t:TS):Prop where h:kO X s t
structure QG(X:Cx)(e:Ou)(t:TG):Prop where h:PG X e t
structure CI(X:Cx)(e:List Ou)(t:yn):Prop where h:Iz X e t
structure QI(X:Cx)(tg e:Ou)(t:TI):Prop where h:PI X tg e t
structure QF(X:Cx)(es:List Ou)(t:TT):Prop where h:PF X es t
structure QP(X:Cx)(pos:Pos)(ks:List (Option Ou))(vs:List Ou)(t:List (TE × TE)):Prop where h:Nn X pos ks vs t
section
variable{X:Cx}{a b c e o i:Ou}{es:List Ou}{ta tb tc te td ty tx tv to ti:TE}{t t':TT}{tr:TA}{pos p p2 pos' apos cpos:Pos}{x y:Str}
theorem qv i (hN:X.N[i]?=NG x:=by rfl) (hv:FK X.env.scope x:=by first | exact RX rfl | exact RL (RX rfl) | exact RL (RL rfl)) (hd:(x == ("__debug__"))=false:=by decide)
  (hcd:(x == ("__classdict__"))=false:=by decide):QE X (.Name x pos) (wU i):=⟨nr hN hv hd hcd⟩
theorem FU:QE X (.Constant (.int n) j pos) (tC (.int n)):=⟨FE⟩
theorem Hv:QE X (.Constant (.bool n) j pos) (tC (.bl n)):=⟨JC⟩
theorem DY:QE X (.Constant .none j pos) (tC .non):=⟨E5⟩
theorem vJ:QE X (.Constant (.str n) j pos) (tC (.str n)):=⟨ER⟩
theorem Ae(hg:Gl X x)(hm:X.mg x=NG u)(r:RelV v u)(hd:(x == ("__debug__"))=false:=by decide):QE X (.Name x pos) (tC v):=⟨mC hg hm r hd⟩
theorem zY(hg:Gl X x)(hm:X.mg x=NI)(hv:OX x=NG u)(r:RelV v u)(hn:x≠ "__name__" :=by decide)(hd:(x == ("__debug__"))=false:=by decide):QE X (.Name x pos) (tC v):=⟨q8 hg hm hv r hn hd⟩
theorem J8(ho:bT X (O3 op) r)(ha:QE X a ta)(hb:QE X b tb):QE X (.BinOp a op b pos) (zB r ta tb):=⟨Hc ho ha.h hb.h⟩
theorem Dv(h:QE X a ta):QE X (.BoolOp op [a] pos) ta:=⟨CN h.h⟩
theorem Dz{rest}(ha:QE X a ta)(hb:QE X (.BoolOp .And (b::rest) pos) tb):QE X (.BoolOp .And (a::b::rest) pos) (B0 ta tb):=⟨GX ha.h hb.h⟩
theorem JH{rest}(ha:QE X a ta)(hb:QE X (.BoolOp .Or (b::rest) pos) tb):QE X (.BoolOp .Or (a::b::rest) pos) (IW ta tb):=⟨Jh ha.h hb.h⟩
theorem oz(hc:QT X c t)(ha:QE X a ta)(hb:QE X b tb):QE X (.IfExp c a b pos) (MY t ta tb):=⟨uZ hc.h ha.h hb.h⟩
theorem qK(h:QA X es tr):QE X (.Tuple es x1 pos) (Bf tr):=⟨uT h.h⟩
theorem FA(h:QA X es tr):QE X (.List es pos) (HG tr):=⟨GI h.h⟩
theorem yy:QO X NI rh:=⟨z7⟩
theorem A1(h:QE X e te):QO X (NG e) (Cn te):=⟨yY h.h⟩
theorem vx{lo}(hr:yp X r)(he:QE X e te)(hl:QO X lo tl)(hu:QO X hi th):QE X (.Subscript e (.Slice lo hi NI p2) pos) (MB r te tl th):=⟨vv hr he.h hl.h hu.h⟩
theorem Il(hr:uo X r)(ha:QE X a ta)(hb:QE X b tb)(hs:m5 b):QE X (.Subscript a b pos) (zB r ta tb):=⟨Jj hr ha.h hb.h hs⟩
theorem DE:QA X [] vz:=⟨gA⟩
theorem qk(ha:QE X e te)(hr:QA X es tr)(hs:noStar e=true:=by rfl):QA X (e::es) (jd te tr):=⟨pk ha.h hr.h hs⟩
variable{k j:Nat}{ps:List Str}{sp:Sp}{id T:String}{r:List V->Hp->VK->Prop}
theorem qd(D:iq X.prog X.w X.K X.mg X.base x j ps sp)(hr:bZ k X.A)(hg:Gl X x)(hj:j<=k)(ha:QA X (e::es) tr)(hdb:(x == ("__debug__"))=false:=by decide)(he:noStar e=true:=by rfl)(hpl:es.all noStar=true:=by rfl) :
  QE X (.Call (.Name x p) (e::es) [] pos) (pd sp [] E0 tr):=⟨kd D hr hg hj ha.h hdb he hpl⟩
theorem qB(hc:aP X (.builtin id) r)(hg:Gl X x)(hm:X.mg x=NI)(hv:OX x=NG (.builtin id))(ha:QA X (e::es) tr)(hn:x≠ "__name__" :=by decide)(hdb:(x == ("__debug__"))=false:=by decide)(he:noStar e=true:=by rfl)(hpl:es.all noStar=true:=by rfl) :
  QE X (.Call (.Name x p) (e::es) [] pos) (Aj r tr):=⟨kB hc hg hm hv ha.h hn hdb he hpl⟩
theorem qT(hc:aP X (.type T) r)(hg:Gl X x)(hm:X.mg x=NI)(hv:OX x=NG (.type T))(ha:QA X (e::es) tr)(hn:x≠ "__name__" :=by decide)(hdb:(x == ("__debug__"))=false:=by decide)(he:noStar e=true:=by rfl)(hpl:es.all noStar=true:=by rfl) :
  QE X (.Call (.Name x p) (e::es) [] pos) (Aj r tr):=⟨kT hc hg hm hv ha.h hn hdb he hpl⟩
theorem Hf(pa:VU T)(slot:Slot T name id)(hty:typeOf (.builtin id)=pure (.type "method_descriptor"))(hm:yq X id rm)(ho:QE X o to)(ha:QA X [e] tr)
  (hbase:Qe o name X.env (Py o X.env)=Py o X.env:=by rfl) (hline:(apos.endLine == cpos.line)=true:=by rfl) (hs:noStar e=true:=by rfl) :
  QE X (.Call (.Attribute o name apos) [e] [] cpos) (Mw X.K T rm to tr):=⟨IK pa slot hty hm ho.h ha.h hbase (by rw[aL hs];rfl) hline (aL hs) rfl⟩
theorem Be{r}(ho:bT X (Ol op) r)(ha:QE X a ta)(hb:QE X b tb)(hm:Pl op b=false):QE X (.Compare a [op] [b] pos) (zB r ta tb):=⟨Bg ho ha.h hb.h hm⟩
theorem Ac{r}(ho:bT X (Ol op) r)(ha:QE X a ta)(hb:QE X b tb)(hm:Pl op b=false):QT X (.Compare a [op] [b] pos) (pT (zB r ta tb)):=⟨BM ho ha.h hb.h hm⟩
theorem uN{r}(ho:bT X (Ol op) r)(ho':bT X (Ol op') r')(ha:QE X a ta)(hb:QE X b tb)(hc:QE X c tc)(hm:S2 [op,op'] [b,c]=false:=by with_unfolding_all rfl):QE X (.Compare a [op,op'] [b,c] pos) (j5 r r' ta tb tc):=⟨wD ho ho' ha.h hb.h hc.h hm⟩
theorem xh{op op':CmpOp}{r r':R2}(ho:bT X (Ol op) r)(ho':bT X (Ol op') r')(ha:QE X a ta)(hb:QE X b tb)(hc:QE X c tc)(hm:S2 [op,op'] [b,c]=false:=by with_unfolding_all rfl):QT X (.Compare a [op,op'] [b,c] pos) (pT (j5 r r' ta tb tc)):=⟨vh ho ho' ha.h hb.h hc.h hm⟩
theorem Dc(ha:QE X a ta):QT X (.Compare a [.Is] [.Constant .none j pos'] pos) (tB (Io ta)):=⟨C6 (EC ha.h)⟩
theorem Ay(ha:QT X a t):QW X (.BoolOp .And [a] pos) t:=⟨pw_and1 ha.h⟩
theorem CK(ha:QT X a t):QW X (.BoolOp .Or [a] pos) t:=⟨pw_or1 ha.h⟩
theorem ED{rest}(ha:QT X a t)(hb:QW X (.BoolOp .And (b::rest) pos) t'):QW X (.BoolOp .And (a::b::rest) pos) (JX t t'):=⟨pw_and ha.h hb.h⟩
theorem Ji{rest}(ha:QT X a t)(hb:QW X (.BoolOp .Or (b::rest) pos) t'):QW X (.BoolOp .Or (a::b::rest) pos) (ML t t'):=⟨pw_or ha.h hb.h⟩
theorem QW.pt(h:QW X e t):QT X e t:=⟨h.h.pt⟩
theorem xD(ha:QT X a t):QT X (.UnaryOp .Not a pos) (IQ t):=⟨E1 ha.h⟩
theorem vm(h:QE X e te)(he: ∀ whole,UG e X.env whole=(do let v <- whole;UW e.pos;RZ [v] (truthy v)):=by intro _;rfl):QT X e (tB te):=⟨DT h.h he⟩
theorem rB{i}(hN:X.N.Nodup)(hi:X.N[i]?=NG x)(hx:Loc X.env.scope x)(hf:X.fn x=true\/X.env.scope.names.lookup x=NG .local:=by first | exact .inl rfl | exact .inr rfl | assumption):QG X (.Name x pos) (cL i):=⟨y3 hN hi hx hf⟩
theorem rR:CI X [] uy:=⟨BP⟩
theorem nQ{t}(h1:QG X e t)(h2:CI X es u)(hs:(O5 (e::es) X.env).map (·.2)=RT e X.env::(O5 es X.env).map (·.2):=by rfl):CI X (e::es) (jc t u):=⟨xN h1.h h2.h hs⟩
theorem xG{t}(hc:X.calm=true)(h:CI X es t)(hn:(O5 es X.env).length=n:=by rfl)(hst:(O5 es X.env).findIdx? (·.1)=NI:=by rfl):QG X (.Tuple es k pos) (pY X.K n t):=⟨Dw hc h.h hn hst⟩
variable{tg iter l:Ou}{wi:TI}{g:TG}{ta':TA}
theorem Fc:QF X [] B4:=⟨Fp⟩
theorem Fx(h:QT X c t):QF X [c] t:=⟨Gp h.h⟩
variable{scope:Q5}{ifs:List Ou}{body rest:List Pn}{spos py:Pos}{tb' ts us:TS}{st:Pn}
theorem xZ vars (hc:X.calm=true) (hx: ∀ v s,¬ X.xe v s) (hkind:scope.kind= .function) (hlc:da scope.names X.env.scope.names X.N vars=true) (hi:QI X tg iter wi)
  (hb: ∀ cl C s₀ H₀ ex pn,QG (bQ X vars scope cl C s₀ H₀ ex pn) tg g/\QF (bQ X vars scope cl C s₀ H₀ ex pn) ifs t/\QE (bQ X vars scope cl C s₀ H₀ ex pn) e te) (hgk:GK X.N.length g)
  (hs: ∀ x,Oq iter X.env x=pure x:=by intro _;rfl):QE X (.ListComp e [⟨tg,iter,ifs,0⟩] scope pos) (G9 vars.length wi g t te) :=
 ⟨ye vars hc hx hkind hlc hi.h (λcl C s₀ H₀ ex pn=>by obtain⟨h1,h2,h3⟩:=hb cl C s₀ H₀ ex pn;exact⟨h1.h,h2.h,h3.h⟩) hgk hs⟩
theorem xj vars i (hc:X.calm=true) (hx: ∀ v s,¬ X.xe v s) (hkind:scope.kind= .function) (hlc:da scope.names X.env.scope.names X.N vars=true) (hN:X.N.Nodup) (hiy:X.N[i]?=NG y) (hy:Loc X.env.scope y) (hi:QI X tg iter wi)
  (hb: ∀ cl C s₀ H₀ ex pn,QG (bQ X vars scope cl C s₀ H₀ ex pn) tg g/\QF (bQ X vars scope cl C s₀ H₀ ex pn) ifs t/\QE (bQ X vars scope cl C s₀ H₀ ex pn) e te) (hgk:GK X.N.length g)
  (hsw:Pt (.ListComp e [⟨tg,iter,ifs,0⟩] scope pos) (NG (.Name y py)) spos.line X.env=pure true:=by rfl) (hs: ∀ x,Oq iter X.env x=pure x:=by intro _;rfl)
  (hf:X.fn y=true\/X.env.scope.names.lookup y=NG .local:=by first | exact .inl rfl | exact .inr rfl | assumption) :
  QS X (.Assign [.Name y py] (.ListComp e [⟨tg,iter,ifs,0⟩] scope pos) spos) (qG vars.length i wi g t te) :=
 ⟨wk vars i hc hx hkind hlc hN hiy hy hi.h (λcl C s₀ H₀ ex pn=>by obtain⟨h1,h2,h3⟩:=hb cl C s₀ H₀ ex pn;exact⟨h1.h,h2.h,h3.h⟩) hgk hsw hs hf⟩
theorem qR{i}(hN:X.N.Nodup)(hi:X.N[i]?=NG x)(hx:Loc X.env.scope x)(he:QE X e te)(hs:Pt e (NG (.Name x pos')) pos.line X.env=pure false:=by rfl)(hf:X.fn x=true\/X.env.scope.names.lookup x=NG .local:=by first | exact .inl rfl | exact .inr rfl | assumption) :
  QS X (.Assign [.Name x pos'] e pos) (vH te (cL i)):=⟨Fi hN hi hx he.h hs hf⟩
theorem CZ(he:QE X e te)(hg:QG X tg g)(hs:Ux [tg] e pos.line X.env=pure false:=by rfl)(hw:Uy [tg] e X.env=pure NI:=by rfl)(h1:(O5 [tg] X.env).map (·.2)=[RT tg X.env]:=by rfl):QS X (.Assign [tg] e pos) (vH te g):=⟨Gx he.h hg.h hs hw h1⟩
theorem yb(hc:QT X c t)(ha:yf X A ts)(hb:yf X B us):QS X (.If c A B pos) (IL t ts us):=⟨Hu hc.h ha.h hb.h⟩
theorem Dj(hp:Vf (Of X.prog X.w) X.A X.env X.xe)(hc:X.calm=true)(hi:QI X tg iter wi)(hg:QG X tg g)(hb:yf X body tb')(hs: ∀ x,Oq iter X.env x=pure x:=by intro _;rfl):QS X (.For tg iter body [] pos) (Ir wi g tb'):=⟨GL hp hc hi.h hg.h hb.h hs⟩
theorem BD(he:QE X e te)(hs:Pt e NI pos.line X.env=pure false:=by rfl):QS X (.Expr e pos) (CA te):=⟨y9 he.h hs⟩
theorem wo(he:QE X e te):QS X (.Return (NG e) pos) (IC te):=⟨Fg he.h⟩
theorem mM:yf X [] vA:=⟨BN⟩
theorem ke(h1:QS X st ts)(h2:yf X rest us):yf X (st::rest) (Ft ts us):=⟨vw h1.h h2.h⟩
theorem ng(h1:QS X st ts):yf X [st] ts:=⟨zu h1.h⟩
end
theorem gS(h:0<=r):jt xs (NG r) NI=xs.drop r.toNat:=by
 have e:r=((r.toNat)):=by omega
 unfold jt;rw[e,HT.jA,HT.hR];simp only[QN];rcases Tq r.toNat xs.length with z | z
 . grind
 . rw[Q4 z,PZ z];simp
theorem m6(h:0<=r):jt xs NI (NG r)=xs.take r.toNat:=by
 have e:r=((r.toNat)):=by omega
 unfold jt;rw[e,HT.jA,HT.hR];simp only[QN,T6,Va];rcases Tq r.toNat xs.length with z | z
 . rw[TB z]
 . rw[Q4 z,Qv (NS _),Qv z]
def Mn k (g:TG) (tt:TT) (te:TE) (σ :St) (Q:VK) (J:It) H1:= ∃ W:Nat->Nat->List V->Hp->Prop,(∃ m,W 0 m [] H1)/\ ∀ i m ys H,W i m ys H ->
 (J.stop i H/\ ∀ p,H p=NI->Q (.ref p) (upd H p (.lst ys))) \/
 (J.go i H/\ys.length < NZ/\ ∀ x H',J.B3 i H x H'->g x (σ ++NM k NI) H' fun σ2 H2=>tt σ2 H2 λb H3 =>
  if b=true then te σ2 H3 λy H4=> ∃ m',m' < m/\W (i+1) m' (ys++[y]) H4 else ∃ m',m' < m/\W (i+1) m' ys H3)
theorem LB{lo:Int}{n:Nat}{k:Nat}{g:TG}{tt:TT}{te:TE}[oG g][o9 tt][pe te]{σ :St}{H:Hp}{Q:VK}(Pv:Nat->List V->Hp->Prop)(h0:Pv 0 [] H)(hl: ∀ i ys H,i<=n->Pv i ys H->ys.length<=i)(hz:n<=NZ)
  (hs: ∀ i ys H,i < n->Pv i ys H->g (.int (lo+i)) (σ ++NM k NI) H fun σ2 H2=>tt σ2 H2 λb H3=>if b=true then te σ2 H3 λy H4=>Pv (i+1) (ys++[y]) H4 else Pv (i+1) ys H3)
  (hd: ∀ ys H,Pv n ys H-> ∀ p,H p=NI->Q (.ref p) (upd H p (.lst ys))):Mn k g tt te σ Q (uK lo n) H:=zE Pv h0 hl hz hs hd
class La (trs:List (TE × TE)):Prop where
 m: ∀ σ H Q Q',(∀ ps H1,Q ps H1->Q' ps H1)->j1 trs σ H Q->j1 trs σ H Q'
theorem F7{K}(o:uY H)(h:d9 K H a xs):rD K H a xs:=by
 rcases h with(h | ⟨u,h⟩) | h
 . rcases o a with z | ⟨u,ys,z⟩<;>(rw[h] at z;cases z)
 . exact .inl ⟨u,h⟩
 . exact .inr h
def KD(P:Om)(w:OC)(K:NH) a (kvs:List (Key × V)):=(a == QR)=false /\
 ∃(o:Obj)(es:Array WA)(ep:Nat)(vs:List (Key × NJ)),K.lookup a=NG o/\o.ExactDict/\o.data= .dict es ep/\PySem.KeysOf (bH P w) es/\Pairs (bH P w) es.toList vs/\(vs.map (·.1)).Nodup/\KV kvs vs
theorem ja: ∀{us},Vals (bs.map V.bl) us->LSm.BoolsAre us bs:=by
 induction bs with
 | nil=>intro us h;cases h;exact .nil
 | cons b r ih =>
  intro us h
  cases h with
  | cons hx ht =>
   cases(show _=Sq b from hx)
   exact .cons _ (ih ht)
theorem k7{s:NO}{h':OQ}(hk: ∀ b x,b ∉ [s.heap.objs.size]->(s.heap.push o).get? b=NG x->h'.get? b=NG x): ∀ b x,s.heap.get? b=NG x->h'.get? b=NG x :=
 λb x e=>hk b x (by intro z;rw[Od.mp z] at e;exact absurd (NY e) (OT _)) (NT _ e)
section
variable{X:Cx}
def LY(K:NH):List V->Hp->VK->Prop:=λxs H Q=> ∃(p:NQ)(bs:List Bool),xs=[.ref p]/\d9 K H p (bs.map V.bl)/\Q (.bl (bs.all id)) H
def L6(K:NH):List V->Hp->VK->Prop:=λxs H Q=> ∃(p:NQ)(bs:List Bool),xs=[.ref p]/\d9 K H p (bs.map V.bl)/\Q (.bl (bs.any id)) H
theorem yM(hc:X.calm=true):aP X (.builtin "all") (LY X.K):=by
 intro pins s σ H xs us Q I r h;obtain⟨p,bs,rfl,hS,q⟩:=h;obtain⟨u,rfl,ru⟩:=vals1 r;cases(show u=Oe p from ru);obtain⟨ak,hv,pl,hz⟩:=I.list hS;have hl:=pl.isList;have hb:=ja hv;have hlt:p < s.heap.objs.size:=by obtain⟨_,e,_⟩:=hl;exact NY e
 refine call_all_walk (SO (items:=ak.toArray) hl ?_);refine⟨s.heap.objs.size,[s.heap.objs.size,p],[s.heap.objs.size],ak.toArray.size,_,_,λi=>(bs[i]?).getD true,rfl,W0 (A:=X.A.in1) (I.ok.hd hc) _ p (Og hlt) ak.toArray,⟨⟨_,Oh _ rfl,rfl,rfl⟩,hl.push _⟩,?_,?_⟩
 . intro i v s' Q' E' hP hQ;obtain⟨b,e,rfl⟩:=hb.get i v (by simpa using hP);simp only[e] at hQ;exact O2 hQ
 . intro h' tk hk;rw[show((Oa ak.toArray.size).all λi=>(bs[i]?).getD true)=bs.all id by rw[Oi,hb.length];exact LSm.range_all bs];exact⟨.bl (bs.all id),H,I.kept (k7 hk),rfl,q⟩
theorem callAny(hc:X.calm=true):aP X (.builtin "any") (L6 X.K):=by
 intro pins s σ H xs us Q I r h;obtain⟨p,bs,rfl,hS,q⟩:=h;obtain⟨u,rfl,ru⟩:=vals1 r;cases(show u=Oe p from ru);obtain⟨ak,hv,pl,hz⟩:=I.list hS;have hl:=pl.isList;have hb:=ja hv;have hlt:p < s.heap.objs.size:=by obtain⟨_,e,_⟩:=hl;exact NY e
 refine call_any_walk (SO (items:=ak.toArray) hl ?_);refine⟨s.heap.objs.size,[s.heap.objs.size,p],[s.heap.objs.size],ak.toArray.size,_,_,λi=>(bs[i]?).getD false,rfl,W0 (A:=X.A.in1) (I.ok.hd hc) _ p (Og hlt) ak.toArray,⟨⟨_,Oh _ rfl,rfl,rfl⟩,hl.push _⟩,?_,?_⟩
 . intro i v s' Q' E' hP hQ;obtain⟨b,e,rfl⟩:=hb.get i v (by simpa using hP);simp only[Option.getD_some,e] at hQ;exact O2 hQ
 . intro h' tk hk;rw[show((Oa ak.toArray.size).any λi=>(bs[i]?).getD false)=bs.any id by rw[Oi,hb.length];exact LSm.range_any bs];exact⟨.bl (bs.any id),H,I.kept (k7 hk),rfl,q⟩
end
noncomputable def Ks(x:Str):It:=⟨λi _=>i < x.cps.size,λi H v H'=>H'=H∧ ∃ c,x.cps[i]?=NG c∧v= .str ⟨#[c]⟩,λi _=>i=x.cps.size⟩
theorem pC{K} x t it (hty:["enumerate", "zip", "dict_itemiterator", "dict_reverseitemiterator", "odict_iterator", "itertools.zip_longest", "itertools.pairwise"].contains ty=false)
  (W: ∀ A ,A.handled=NI->Walks P w A it [it] [it] x.cps.size (SignAt x) (λi h=>h.IsStrIter it ty x t i)) (S: ∀ A i s Q E,s.heap.IsStrIter it ty x t i->Q (.ref it) s->Ob (Of P w) A (Vd (.ref it)) Q E s) :
  Turn P w K tg (Ks x) [it] it (λi h=>h.IsStrIter it ty x t i) where
 mem:=by simp
 obj:=λi h st b hb=>by
  have e:b=it:=by simpa using hb
  subst e;obtain⟨o,e,c,d⟩:=st;exact⟨o,e,λv z=>by simp_all⟩
 keep:=λi h h' st k=>by obtain⟨o,e,r⟩:=st;exact⟨o,k it (by simp) o e,r⟩
 item:=by
  intro X hP hw hK hc i pins s σ H E I hf st hg;subst hP hw hK;obtain⟨f0,f1,f2,f3,f4,f5⟩:=hf it (by simp);refine(W X.A (I.ok.hd hc)).item i s _ _ hg st λv h' tk hv st' hk=>?_;obtain⟨c,u,hx,rfl⟩:=hv;have I1:=I.turned (t':=tk) (λb o hb e=>hk b o (by simpa using hb) e) f0 f1 f3 f4 f5;obtain⟨o,e,cc,d⟩:=id st';exact⟨_,rfl,sL (s:={ s with heap:=h',toks:=tk}) e cc d hty ⟨.str ⟨#[c]⟩,H,I1,⟨_,rfl⟩,⟨rfl,c,hx,rfl⟩,st',λb hb=>(hf b hb).1⟩⟩
 done:=by
  intro X hP hw hK hc i pins s σ H E I hf st hg;subst hP hw hK;obtain⟨f0,f1,f2,f3,f4,f5⟩:=hf it (by simp);have hi:=hg;subst hi;exact(W X.A (I.ok.hd hc)).done s _ _ st λh' tk hk=>⟨rfl,I.turned (t':=tk) (λb o hb e=>hk b o (by simpa using hb) e) f0 f1 f3 f4 f5⟩
 self:=λA i s Q E st h=>S A i s Q E st h
theorem eO{x:Str}{k:Nat}{g:TG}{tt:TT}{te:TE}[oG g][o9 tt][pe te]{σ :St}{H:Hp}{Q:VK}(Pv:Nat->List V->Hp->Prop)(h0:Pv 0 [] H)(hl: ∀ i ys H,i<=x.cps.size->Pv i ys H->ys.length<=i)(hz:x.cps.size<=NZ)
  (hs: ∀ i c ys H,x.cps[i]?=NG c->Pv i ys H->g (.str ⟨#[c]⟩) (σ ++NM k NI) H fun σ2 H2=>tt σ2 H2 λb H3=>if b=true then te σ2 H3 λy H4=>Pv (i+1) (ys++[y]) H4 else Pv (i+1) ys H3)
  (hd: ∀ ys H,Pv x.cps.size ys H-> ∀ p,H p=NI->Q (.ref p) (upd H p (.lst ys))):Mn k g tt te σ Q (Ks x) H:=by
 refine⟨λi m ys H=>m=x.cps.size - i/\i<=x.cps.size/\Pv i ys H,⟨x.cps.size,by simp,OU _,h0⟩,?_⟩;rintro i m ys H ⟨rfl,hi,p⟩;have hy:=hl i ys H hi p;by_cases hlt:i < x.cps.size
 . refine .inr ⟨hlt,by omega,λv H' y=>?_⟩;obtain⟨e,c,hc,rfl⟩:=y;subst e;refine oG.m (g:=g) _ _ _ _ _ (fun σ2 H2 z=>o9.m (t:=tt) _ _ _ _ (λb H3 z=>?_) z) (hs i c ys _ hc p);cases b with
   | true =>
    exact pe.m (t:=te) _ _ _ _ (λv H4 w=>⟨x.cps.size - (i+1),by omega,rfl,hlt,w⟩) z
   | false =>
    exact⟨x.cps.size - (i+1),by omega,rfl,hlt,z⟩
 . have e:i=x.cps.size:=by omega
   subst e;exact .inl ⟨rfl,hd ys H p⟩
theorem kW l o b u :
  WV (To.«dict.__eq__» ⟨[.ref l,.str b u],[]⟩) (λ_ R s=>s.heap.get? l=NG o/\R (.ok (.ret .notImplemented)) s) :=
 .of_wp λprog w A R s h=>by
  obtain⟨hl,h⟩:=h;have f1:=T7;wp_walk;exact⟨_,rfl,h⟩
theorem mG b u l c es ep dd sl :
  WV (To.«str.__eq__» ⟨[.str b u,.ref l],[]⟩) (λ_ R s=>s.heap.get? l=NG { cls:=c,dict:=dd,data:= .dict es ep,slots:=sl}/\R (.ok (.ret .notImplemented)) s) :=
 .of_wp λprog w A R s h=>by obtain⟨hl,h⟩:=h;wp_walk using O1 hl,Rp hl;exact⟨_,rfl,h⟩
theorem pJ b u (hl:s.heap.get? l=NG o) (hx:o.ExactDict) (hd:o.data= .dict es ep) (hu:A.units < RE):SeqAt.RcAt A s (.ref l) (.str b u) false:=λprog w E Q h=>by
 obtain⟨cls,dd,data,sl⟩:=o;have hc:=hx.1;subst hc hd;exact SeqAt.rc_eq_decline_or (k:=false) ⟨_,hl,rfl⟩ (RU s b u) (by decide) T7 T8 SY
  (λ_ hq=>PU T8 ⟨_,hl,rfl⟩ PySem.F.entry_dict_eq (PySem.F.args_dict_eq_2 _ _) (kW l _ b u) ⟨hl,hq⟩)
  (λ_ hq=>PU SY (RU s b u) PySem.F.entry_str_eq (PySem.F.args_str_eq_2 _ _) (mG b u l (.type "dict") es ep dd sl) ⟨hl,hq⟩)
  (λ_ z=>wpAny_of_eq (show isSame (.ref l) (.str b u)=pure false from rfl) z) (.inr hu) h
noncomputable def Kj(K:NH):R2:=λx y H Q=> ∃ p z,x= .ref p/\y= .str z/\((∃ xs,d9 K H p xs)\/(∃ xs,fk K H p xs)\/ ∃ kvs,H p=NG (.dK kvs))/\Q (.bl false) H
def Ho(K:NH):V->Option Int->Option Int->Hp->VK->Prop:=λx lo hi H Q=> ∃ a xs,x= .ref a/\fk K H a xs/\(HT.cG xs.length 0 lo=0/\HT.cG xs.length xs.length hi=xs.length)/\Q (.ref a) H
noncomputable def Cq(K:NH):R2:=λx y H Q=> ∃ a b ys,x= .ref a/\y= .ref b/\fk K H a []/\fk K H b ys/\Q (.ref b) H
noncomputable def Cr:R2:=λx y H Q=> ∃ a b,x= .str a/\y= .str b/\a.length+b.length<=NZ/\Q (.str (a++b)) H
theorem iE:fillsNumberSlot (.type "tuple") "mul" =pure false :=
 PySem.fillsNumberSlot_seq (id:= "tuple.__mul__") (r:=NG (.builtin "tuple.__rmul__")) P0.lookup (by rfl) S8.lookup (by rfl)
theorem mz:seqRepeat? (.type "tuple")=pure (NG (.builtin "tuple.__mul__")):=by
 unfold seqRepeat?;rw[Vr (T:= "tuple") (name:= "__mul__") (id:= "tuple.__mul__") P0.lookup (by rfl),Vr (T:= "tuple") (name:= "__rmul__") (id:= "tuple.__rmul__") S8.lookup (by rfl)];rfl
theorem kn a t l items n dd sl :
  WV (To.«int.__rmul__» ⟨[.int a t,.ref l],[]⟩) (λ_ R s=>s.heap.get? l=NG { cls:= .type "tuple",dict:=dd,data:= .seq items n,slots:=sl}/\R (.ok (.ret Value.notImplemented)) s) :=
 .of_wp λprog w A R s h=>by obtain⟨hl,h⟩:=h;wp_walk using O1 hl,Rp hl;exact⟨_,rfl,h⟩
theorem kz{prog:Om}{w:OC}{A:OI}{E:NJ->NO->Prop}{s:NO}{t sl:NQ}{items:Array NJ}{vl vu:NJ}{lo hi:Option Int}{Q:NJ->NO->Prop}(ht:WR s.heap t items)(hs:s.heap.IsSliceOf sl vl vu .none)(pl:Th vl lo)(pu:Th vu hi)
  (hw:HT.cG items.size 0 lo=0/\HT.cG items.size items.size hi=items.size) (h:Q (.ref t) s):Ob (Of prog w) A (Ti (.ref t) (.ref sl)) Q E s:=by
 obtain⟨os,hos,hcs,hds⟩:=id hs;have hTs:s.TypeIs (.ref sl) "slice" :=⟨os,hos,hcs⟩
 unfold Ti
 try with_reducible refine Pm ?_
 refine NL (U2 ht.typeIs (by decide) ?_);refine NL (S5 (name:=NP "__getitem__") ht.typeIs OM
  (Vk OM ht.typeIs Up ?_ (UJ _ _)))
 show Ob _ _ (Sv (.ref t) >>= _) _ _ s;refine NL (tupleItemsOf_ ht ?_);refine NL (U3 hTs ?_);refine NL (HT.d4 hs pl pu ?_);show Ob _ _ (if (((HT.cG items.size 0 lo):Int) == 0&&(1) == 1&&(HT.cG items.size items.size hi - HT.cG items.size 0 lo) == items.size)=true then _ else _) _ _ s;rw[if_pos (by simp_all)];refine NL (m:=VZ _) (NL (U3 ht.typeIs (N2 ?_)));exact NL (wpAny_rule (N2 ⟨_,rfl,N2 h⟩))
section
variable{X:Cx}
theorem za(hu:X.A.units < RE):bT X (Ol .Eq) (Kj X.K):=by
 intro pins s σ H x y v u Q I rx ry h;obtain⟨p,z,rfl,rfl,hp,hQ⟩:=h;cases(show v=Oe p from rx);obtain⟨t,rfl⟩:=ry;have fin:EP X pins σ Q (.bool false) s:=⟨.bl false,H,I,rfl,hQ⟩
 rcases hp with⟨xs,hp⟩ | ⟨xs,hp⟩ | ⟨kvs,hp⟩
 . obtain⟨ak,hv,pl,hz⟩:=I.list hp;exact SeqAt.RcAt.list_str z t pl.isList hu _ _ _ _ fin
 . obtain⟨ak,hv,pl,hz⟩:=I.tuple hp;exact SeqAt.RcAt.tuple_str z t pl hu _ _ _ _ fin
 . obtain⟨_,_,vs,_,o,es,ep,e,hx,hd,_⟩:=BV I.aW hp;exact pJ z t e hx hd hu _ _ _ _ fin
theorem Ax:yp X (Ho X.K):=by
 intro pins s σ H x v vl vu lo hi sl Q I rx hs pl pu h;obtain⟨a,xs,rfl,hx,hw,q⟩:=h;cases rx;obtain⟨ak,r,ht,hz⟩:=I.tuple hx;have hlen:ak.toArray.size=xs.length:=by exact r.length.symm
 refine⟨"tuple",_,OM.lookup,ht.typeIs,?_⟩;exact kz ht hs pl pu (by rw[hlen];exact hw) ⟨.ref a,H,I,rfl,q⟩
theorem BA:bT X (O3 .Add) (Cq X.K):=by
 intro pins s σ H x y v u Q I rx ry h;obtain⟨a,b,ys,rfl,rfl,ha,hb,q⟩:=h;cases(show v=Oe a from rx);cases(show u=Oe b from ry);obtain⟨ak,r1,p1,_⟩:=I.tuple ha;obtain⟨its2,r2,p2,_⟩:=I.tuple hb;have e1:ak=[]:=by cases r1;rfl
 subst e1;obtain⟨⟨cls,dd,data,sl⟩,ho,hc,n,hd⟩:=id p1;obtain⟨⟨cls2,dd2,data2,sl2⟩,ho2,hc2,n2,hd2⟩:=id p2;simp only at hc hd hc2 hd2;subst hc hd hc2 hd2;exact U1 ⟨_,ho,rfl⟩ ⟨_,ho2,rfl⟩ S3 Uz RG Rw (Ra _ _)
  (tuple_addW0 a b _ _ n n2 dd dd2 sl sl2 rfl) ⟨ho,ho2,⟨.ref b,H,I,rfl,q⟩⟩
theorem AB:bT X (O3 .Add) Cr:=by
 intro pins s σ H x y v u Q I rx ry h;obtain⟨a,b,rfl,rfl,hz,q⟩:=h;obtain⟨t,rfl⟩:=rx;obtain⟨t',rfl⟩:=ry;exact WW (λt' tk=>⟨.str (a++b),H,I.tok _,⟨_,rfl⟩,q⟩) hz
theorem Ex:bT X (O3 .Add) (λx y H Q=>(BB λi j=> .int (i+j)) x y H Q\/(Ib x y H Q\/(B1 X.K x y H Q\/(Cq X.K x y H Q\/Cr x y H Q)))):=C9.or (Ds.or (yx.or (BA.or AB)))
theorem Nk:yp X (λx lo hi H Q=>HL X.K x lo hi H Q\/(Ke X.K x lo hi H Q\/Ho X.K x lo hi H Q)):=BS.or (E4.or Ax)
end
noncomputable def MM{α}(c:Nat->Nat->Bool):KasT α -> α
 | .ret a=>a
 | .ask i j k=>MM c (k (c i j))
noncomputable def K0{α}(n:Nat)(c:Nat->Nat->Bool):KasT α ->Bool
 | .ret _=>true
 | .ask i j k=>decide (i < n)&&decide (j < n)&& !decide (i=j)&&K0 n c (k (c i j))
def xM{α} n (c:Nat->Nat->Bool) (t:KasT α) (Q: α ->Prop):=K0 n c t=true/\Q (MM c t)
theorem xM.ret{α :Type}{n:Nat}{c:Nat->Nat->Bool}{a: α}{Q: α ->Prop}(h:Q a):xM n c (.ret a) Q:=⟨rfl,h⟩
theorem xM.ask{α :Type}{n:Nat}{c:Nat->Nat->Bool}{i j:Nat}{k:Bool->KasT α}{Q: α ->Prop}(hi:i < n)(hj:j < n)(hij:i≠j)(h:xM n c (k (c i j)) Q):xM n c (.ask i j k) Q :=
 ⟨by simp only[K0,hi,hj,hij,h.1,decide_true,decide_false,Bool.not_false,Rg],h.2⟩
theorem xM.bind: ∀{t},xM n c t (λa=>xM n c (f a) Q)->xM n c (t.bind f) Q
 | .ret a,h=>h.2
 | .ask i j k,h=>by
  have e:=h.1;simp only[K0,N7,decide_eq_true_eq,QM,decide_eq_false_iff_not] at e;exact xM.ask e.1.1.1 e.1.1.2 e.1.2 (xM.bind (t:=k (c i j)) ⟨e.2,h.2⟩)
structure mF(n:Nat)(p:Array Nat):Prop where
 perm:p.toList.Perm (Oa n)
theorem mF.size(h:mF n p):p.size=n:=by simpa using h.perm.length_eq
theorem mF.lt(h:mF n p)(hi:i < n):p.getD i 0 < n:=by
 have hi':=h.size ▸ hi;have:p.getD i 0∈p.toList:=by
  simp_all
 exact PK.mp (h.perm.mem_iff.mp this)
theorem mF.ne(h:mF n p)(hi:i < n)(hj:j < n)(hij:i≠j):p.getD i 0≠p.getD j 0:=λe=>by
 have hi':=h.size ▸ hi;have hj':=h.size ▸ hj;have nd:=h.perm.nodup_iff.mpr List.nodup_range;rw[Sk,Sk,Qb hi',Qb hj'] at e;exact hij ((List.getElem?_inj (by omega) nd).mp (by simp_all))
theorem mF.of(h:mF n p)(pm:q.Perm p):mF n q:=⟨(Array.perm_iff_toList_perm.mp pm).trans h.perm⟩
section
variable{n:Nat}{r:Nat->Nat}
noncomputable def rk(r:Nat->Nat)(p:Array Nat) i:=r (p.getD i 0)
end
def Nl(a b:Str):=a.cps.toList < b.cps.toList
instance (a b:Str):Decidable (Nl a b):=inferInstanceAs (Decidable (a.cps.toList < b.cps.toList))
theorem d8{ b:Str}(h:a.cps.toList=b.cps.toList):a=b:=by
 cases a;simp only at h;rw[Vs.mp h]
section
variable{prog:Om}{w:OC}{A:OI}{E:NJ->NO->Prop}{s:NO}
theorem kN{vs:List NJ}(h:vs.length < 64):vs.length<=NZ:=N5 (Sh h) (by decide)
end
def nP(H:Hp)(y:V)(q:Str × Int):= ∃ b,y= .ref b/\H b=NG (.tup [.str q.1,.int q.2])
theorem nP.v(h:nP H y q):HV H y (.inr q.1,.int q.2):=h
theorem nP.same{H H':Hp}{y:V}{q:Str × Int}(h:nP H y q)(s:hU H H'):nP H' y q:=let ⟨b,e,h⟩:=h;⟨b,e,s _ _ h⟩
def LM(h:OQ)(v:NJ)(q:Str × Int):= ∃ b o k t u,v= .ref b/\h.get? b=NG o/\o.cls= .type "tuple" /\o.data= .seq #[.str q.1 t,.int q.2 u] k
theorem LM.kept(k: ∀ b o,h.get? b=NG o->h'.get? b=NG o)(x:LM h v q):LM h' v q:=by obtain⟨b,o,n,t,u,e1,e2,e3,e4⟩:=x;exact⟨b,o,n,t,u,e1,k _ _ e2,e3,e4⟩
section
variable{prog:Om}{w:OC}{A:OI}{E:NJ->NO->Prop}{s:NO}
structure Nd(h:OQ)(z TI TO i1 i2 l1 l2:NQ)(k:Nat):Prop where
 Nv:IsZip h z TI TO .none
 ak:IsPair h TI (.ref i1) (.ref i2)
 old: ∃ a b,IsPair h TO a b
 one:h.IsTupleIter i1 l1 k
 two:h.IsTupleIter i2 l2 k
end
end L2
end
section
open PySem PySem.W PyProof.Rows
namespace P3
open PySem PySem.Spec PyProof.Rows L2
inductive PV where
 | non | bl (b:Bool) | int (i:Int) | str (x:Str) | tup (xs:List PV) | ktup (xs:List PV) | ref (n:Nat) | ty (n:String)
mutual
def PV.beq:PV->PV->Bool
 | .non,.non=>true
 | .bl a,.bl b=>decide (a=b)
 | .int a,.int b=>decide (a=b)
 | .str a,.str b=>decide (a=b)
 | .tup a,.tup b=>PV.BU a b
 | .ktup a,.ktup b=>PV.BU a b
 | .ref a,.ref b=>decide (a=b)
 | .ty a,.ty b=>decide (a=b)
 | _,_=>false
def PV.BU:List PV->List PV->Bool
 | [],[]=>true
 | a::x,b::y=>PV.beq a b&&PV.BU x y
 | _,_=>false
end
theorem dO{p:Prop}(h: ¬ p):false=true↔p:=⟨λe=>(by cases e),λe=>absurd e h⟩
mutual
theorem PV.beq_iff: ∀(a b:PV),PV.beq a b=true↔a=b
 | .non,b=>by cases b<;>first | exact iff_of_true rfl rfl | exact dO (by intro e;cases e)
 | .bl _,b=>by cases b<;>first | exact decide_eq_true_iff.trans (by simp) | exact dO (by intro e;cases e)
 | .int _,b=>by cases b<;>first | exact decide_eq_true_iff.trans (by simp) | exact dO (by intro e;cases e)
 | .str _,b=>by cases b<;>first | exact decide_eq_true_iff.trans (by simp) | exact dO (by intro e;cases e)
 | .ref _,b=>by cases b<;>first | exact decide_eq_true_iff.trans (by simp) | exact dO (by intro e;cases e)
 | .ty _,b=>by cases b<;>first | exact decide_eq_true_iff.trans (by simp) | exact dO (by intro e;cases e)
 | .tup a,b=>by cases b<;>first | exact(PV.j9 a _).trans (by simp) | exact dO (by intro e;cases e)
 | .ktup a,b=>by cases b<;>first | exact(PV.j9 a _).trans (by simp) | exact dO (by intro e;cases e)
theorem PV.j9: ∀(a b:List PV),PV.BU a b=true↔a=b
 | [],b=>by cases b<;>first | exact iff_of_true rfl rfl | exact dO (by intro e;cases e)
 | a::x,b=>by
  cases b with
  | nil=>exact dO (by intro e;cases e)
  | cons b y=>exact(T5.trans (and_congr (PV.beq_iff a b) (PV.j9 x y))).trans (by simp)
end
instance:DecidableEq PV:=λa b=>decidable_of_iff _ (PV.beq_iff a b)
mutual
def PV.flat:PV->Bool
 | .ref _=>false
 | .tup xs=>PV.bF xs
 | .ktup xs=>PV.bF xs
 | _=>true
def PV.bF:List PV->Bool
 | []=>true
 | x::r=>x.flat&&PV.bF r
end
mutual
def PV.fJ(n:Nat):PV->Bool
 | .ref m=>decide (m < n)
 | .tup xs=>PV.fD n xs
 | .ktup xs=>PV.fD n xs
 | _=>true
def PV.fD(n:Nat):List PV->Bool
 | []=>true
 | x::r=>x.fJ n&&PV.fD n r
end
inductive PO where
 | lst (xs:List PV) | gO (xs:List PV) | dct (kvs:List (Key × PV)) | obj (C:Nat) (fs:List (Str × PV)) | exc (C:Nat) (fs:List (Str × PV))
 deriving DecidableEq
noncomputable def PO.dA:PO->Bool
 | .gO _=>false
 | .exc _ _=>false
 | _=>true
noncomputable def PO.fJ(n:Nat):PO->Bool
 | .lst xs=>PV.fD n xs
 | .gO xs=>PV.fD n xs
 | .dct kvs=>PV.fD n (kvs.map (·.2))
 | .obj _ fs=>PV.fD n (fs.map (·.2))
 | .exc _ fs=>PV.fD n (fs.map (·.2))
abbrev PH:=List PO
abbrev aG:=List (Option PV)
def KT(K:NH) a (xs:List V):= ∃(o:Obj)(ak:Array NJ)(n:Nat),K.lookup a=NG o/\o.cls= .type "tuple" /\o.data= .seq ak n/\ak.size<=NZ/\Vals xs ak.toList
mutual
def rel(K:NH)(ρ :List NQ)(H:Hp):PV->V->Prop
 | .non,v=>v= .non
 | .bl b,v=>v= .bl b
 | .int i,v=>v= .int i
 | .str x,v=>v= .str x
 | .ty n,v=>v= .ty n
 | .ref n,v=> ∃ a, ρ[n]?=NG a∧v= .ref a
 | .tup xs,v=> ∃ a vs,v= .ref a∧H a=NG (.tup vs)∧ah K ρ H xs vs
 | .ktup xs,v=> ∃ a vs,v= .ref a∧KT K a vs∧ah K ρ H xs vs
def ah(K:NH)(ρ :List NQ)(H:Hp):List PV->List V->Prop
 | [],vs=>vs=[]
 | x::r,vs=> ∃ v t,vs=v::t∧rel K ρ H x v∧ah K ρ H r t
end
structure Gr (ρ :List NQ) (H:Hp) (ρ':List NQ) (H':Hp):Prop where
 pre: ∀(n:Nat)(a:NQ), ρ[n]?=NG a-> ρ'[n]?=NG a
 tup: ∀ a xs,H a=NG (.tup xs)->H' a=NG (.tup xs)
 dw: ∀ a o u,H a=NG (.dw o u)->H' a=NG (.dw o u)
theorem Gr.refl ρ H:Gr ρ H ρ H:=⟨λ_ _ h=>h,λ_ _ h=>h,λ_ _ _ h=>h⟩
theorem Gr.trans(a:Gr ρ H ρ1 H1)(b:Gr ρ1 H1 ρ2 H2):Gr ρ H ρ2 H2 :=
 ⟨λn x h=>b.pre n x (a.pre n x h),λx xs h=>b.tup x xs (a.tup x xs h),λx o u h=>b.dw x o u (a.dw x o u h)⟩
section
variable{K:NH}{ρ ρ':List NQ}{H H':Hp}
theorem Gr.Nr(g:Gr ρ H ρ' H')(h:fk K H a xs):fk K H' a xs:=by
 rcases h with(h | ⟨o,h⟩) | h
 . exact .inl (.inl (g.tup _ _ h))
 . exact .inl (.inr ⟨o,g.dw _ _ _ h⟩)
 . exact .inr h
theorem Gr.Nt(g:Gr ρ H ρ' H')(h:rD K H a xs):rD K H' a xs:=by
 rcases h with⟨o,h⟩ | h
 . exact .inl ⟨o,g.dw _ _ _ h⟩
 . exact .inr h
mutual
theorem rel.gr(g:Gr ρ H ρ' H'): ∀(x:PV)(v:V),rel K ρ H x v->rel K ρ' H' x v
 | .non,v,h=>by simpa only[rel] using h
 | .bl _,v,h=>by simpa only[rel] using h
 | .int _,v,h=>by simpa only[rel] using h
 | .str _,v,h=>by simpa only[rel] using h
 | .ty _,v,h=>by simpa only[rel] using h
 | .ref n,v,h=>by
  rw[rel] at h ⊢;obtain⟨a,e,h⟩:=h;exact⟨a,g.pre _ _ e,h⟩
 | .tup xs,v,h=>by
  rw[rel] at h ⊢;obtain⟨a,vs,e,s,r⟩:=h;exact⟨a,vs,e,g.tup _ _ s,ah.gr g xs vs r⟩
 | .ktup xs,v,h=>by
  rw[rel] at h ⊢;obtain⟨a,vs,e,s,r⟩:=h;exact⟨a,vs,e,s,ah.gr g xs vs r⟩
theorem ah.gr(g:Gr ρ H ρ' H'): ∀(xs:List PV)(vs:List V),ah K ρ H xs vs->ah K ρ' H' xs vs
 | [],vs,h=>by simpa only[ah] using h
 | x::r,vs,h=>by
  rw[ah] at h ⊢;obtain⟨v,t,e,h1,h2⟩:=h;exact⟨v,t,e,rel.gr g x v h1,ah.gr g r t h2⟩
end
noncomputable def PV.seq?:PV->Option (List PV)
 | .tup xs=>NG xs
 | .ktup xs=>NG xs
 | _=>NI
theorem rel.seq(e:x.seq?=NG xs)(h:rel K ρ H x v): ∃ a vs,v= .ref a/\fk K H a vs/\ah K ρ H xs vs:=by
 cases x<;>simp only[PV.seq?,reduceCtorEq,RJ] at e
 . subst e;obtain⟨a,vs,e,z,r⟩:=h;exact⟨a,vs,e,.of z,r⟩
 . subst e;obtain⟨a,vs,e,z,r⟩:=h;exact⟨a,vs,e,.inr z,r⟩
theorem bq:ah K ρ H [] vs↔vs=[]:=by rw[ah]
theorem aB:ah K ρ H (x::r) vs↔ ∃ v t,vs=v::t/\rel K ρ H x v/\ah K ρ H r t:=by rw[ah]
theorem ah.len: ∀{xs vs},ah K ρ H xs vs->xs.length=vs.length
 | [],vs,h=>by rw[h];rfl
 | x::r,vs,h=>by
  obtain⟨v,t,rfl,_,h2⟩:=aB.mp h;simp[ah.len h2]
theorem ah.get: ∀{xs vs}{i:Nat}{x},ah K ρ H xs vs->xs[i]?=NG x-> ∃ v,vs[i]?=NG v/\rel K ρ H x v
 | [],vs,i,x,h,e=>by simp at e
 | y::r,vs,i,x,h,e=>by
  obtain⟨v,t,rfl,h1,h2⟩:=aB.mp h;cases i with
  | zero=>simp at e;subst e;exact⟨v,rfl,h1⟩
  | succ i=>simpa using ah.get h2 (by simpa using e)
theorem ah.app: ∀{xs ys vs ws},ah K ρ H xs vs->ah K ρ H ys ws->ah K ρ H (xs++ys) (vs++ws)
 | [],ys,vs,ws,h,h'=>by subst h;exact h'
 | x::r,ys,vs,ws,h,h'=>by
  obtain⟨v,t,rfl,h1,h2⟩:=aB.mp h;exact aB.mpr ⟨v,t++ws,rfl,h1,ah.app h2 h'⟩
theorem ah.one(h:rel K ρ H x v):ah K ρ H [x] [v]:=aB.mpr ⟨v,[],rfl,h,bq.mpr rfl⟩
theorem ah.take: ∀{xs vs} n,ah K ρ H xs vs->ah K ρ H (xs.take n) (vs.take n)
 | xs,vs,0,h=>by rfl
 | [],vs,n+1,h=>by subst h;simp[bq]
 | x::r,vs,n+1,h=>by
  obtain⟨v,t,rfl,h1,h2⟩:=aB.mp h;exact aB.mpr ⟨v,t.take n,rfl,h1,ah.take n h2⟩
theorem ah.drop: ∀{xs vs} n,ah K ρ H xs vs->ah K ρ H (xs.drop n) (vs.drop n)
 | xs,vs,0,h=>h
 | [],vs,n+1,h=>by subst h;simp[bq]
 | x::r,vs,n+1,h=>by
  obtain⟨v,t,rfl,h1,h2⟩:=aB.mp h;exact ah.drop n h2
theorem ah.set: ∀{xs vs x v} i,ah K ρ H xs vs->rel K ρ H x v->ah K ρ H (xs.set i x) (vs.set i v)
 | [],vs,x,v,i,h,hv=>by subst h;simp[bq]
 | y::r,vs,x,v,i,h,hv=>by
  obtain⟨w,t,rfl,h1,h2⟩:=aB.mp h;cases i with
  | zero=>exact aB.mpr ⟨v,t,rfl,hv,h2⟩
  | succ i=>exact aB.mpr ⟨w,t.set i v,rfl,h1,ah.set i h2 hv⟩
theorem ah.ints: ∀(ns:List Int),ah K ρ H (ns.map PV.int) (ns.map V.int)
 | []=>bq.mpr rfl
 | n::r=>aB.mpr ⟨.int n,r.map V.int,rfl,by rw[rel],ah.ints r⟩
end
def iI(K:NH)(ρ :List NQ)(H:Hp)(a:NQ):PO->Prop
 | .lst xs=> ∃ vs,H a=NG (.lst vs)/\ah K ρ H xs vs
 | .gO xs=> ∃ vs,rD K H a vs/\ah K ρ H xs vs
 | .dct kvs=> ∃ kws,H a=NG (.dK kws)/\Pd (λ(p:Key × PV) (q:Key × V)=>p.1=q.1/\rel K ρ H p.2 q.2) kvs kws
 | .obj C fs=> ∃ dx fws,H a=NG (.ins C dx fws)/\Pd (λ(p:Str × PV) (q:Str × V)=>p.1=q.1/\rel K ρ H p.2 q.2) fs fws
 | .exc C fs=> ∃ fws,Jb H a C fws/\Pd (λ(p:Str × PV) (q:Str × V)=>p.1=q.1/\rel K ρ H p.2 q.2) fs fws
structure bN(K:NH)(ρ :List NQ)(h:PH)(H:Hp):Prop where
 len: ρ.length=h.length
 nd: ∀(i j:Nat)(a:NQ)(oi oj:PO),h[i]?=NG oi->h[j]?=NG oj->oi.dA=true->oj.dA=true-> ρ[i]?=NG a-> ρ[j]?=NG a->i=j
 ob: ∀(i:Nat)(o:PO)(a:NQ),h[i]?=NG o-> ρ[i]?=NG a->iI K ρ H a o
section
variable {K:NH} {ρ ρ':List NQ} {H H':Hp} {h:PH}
theorem bN.at(s:bN K ρ h H){i:Nat}(e:h[i]?=NG o): ∃ a, ρ[i]?=NG a∧iI K ρ H a o:=by
 have hi:i < ρ.length:=by rw [s.len];exact (NN.mp e).1
 exact ⟨ρ[i],OB hi,s.ob i o _ e (OB hi)⟩
theorem Paired.dS{κ :Type}{kvs:List (κ × PV)}{kws:List (κ × V)}(g:Gr ρ H ρ' H')(h:Pd (λ(p: κ × PV) (q: κ × V)=>p.1=q.1∧rel K ρ H p.2 q.2) kvs kws) :
  Pd (λ(p: κ × PV) (q: κ × V)=>p.1=q.1/\rel K ρ' H' p.2 q.2) kvs kws:=Paired.zc h λ_ _ z=>⟨z.1,rel.gr g _ _ z.2⟩
def Je(H:Hp)(a:NQ):Prop:= ∃ o,H a=NG o/\(∀ xs,o≠ .tup xs)/\ ∀ x u,o≠ .dw x u
theorem fu{a:NQ}{o:PO}(m:o.dA=true)(r:iI K ρ H a o):Je H a:=by
 cases o with
 | lst xs=>obtain⟨vs,e,_⟩:=r;exact⟨_,e,(λ_ z=>HO.noConfusion z),λ_ _ z=>HO.noConfusion z⟩
 | gO xs=>nomatch m
 | exc C fs=>nomatch m
 | dct kvs=>obtain⟨kws,e,_⟩:=r;exact⟨_,e,(λ_ z=>HO.noConfusion z),λ_ _ z=>HO.noConfusion z⟩
 | obj C fs=>obtain⟨dx,fws,e,_⟩:=r;exact⟨_,e,(λ_ z=>HO.noConfusion z),λ_ _ z=>HO.noConfusion z⟩
theorem iH{a:NQ}{o:PO}(g:Gr ρ H ρ' H')(k:o.dA=true->H' a=H a)(r:iI K ρ H a o):iI K ρ' H' a o:=by
 cases o with
 | lst xs=>obtain⟨vs,e,r⟩:=r;exact⟨vs,(k rfl).trans e,ah.gr g _ _ r⟩
 | gO xs=>obtain⟨vs,e,r⟩:=r;exact⟨vs,g.Nt e,ah.gr g _ _ r⟩
 | dct kvs=>obtain⟨kws,e,r⟩:=r;exact⟨kws,(k rfl).trans e,Paired.dS g r⟩
 | obj C fs=>obtain ⟨dx,fws,e,r⟩:=r;exact ⟨dx,fws,(k rfl).trans e,Paired.dS g r⟩
 | exc C fs=>obtain ⟨fws,⟨oe,dx,od,av,h1,h2,h3,h4,h5⟩,r⟩:=r;exact ⟨fws,⟨oe,dx,od,av,g.dw _ _ _ h1,h2,h3,h4,g.dw _ _ _ h5⟩,Paired.dS g r⟩
theorem Gr.new{p : NQ}{o : HO}(hp : H p = NI)(l : List NQ) : Gr ρ H (ρ ++ l) (upd H p o) :=
  ⟨λn a e => by rw [N3 (NN.mp e).1]; exact e,
   λa xs e => by rw [aq (ao e hp)]; exact e, λa o u e => by rw [aq (ao e hp)]; exact e⟩
theorem Gr.ju{p:NQ}{o:HO}(hp:H p=NI):Gr ρ H ρ (upd H p o):=by simpa using Gr.new (ρ := ρ) (o:=o) hp []
theorem bN.tup(s:bN K ρ h H){p:NQ}{o:HO}(hp:H p=NI):bN K ρ h (upd H p o) :=
 ⟨s.len,s.nd,λi x a e1 e2=>iH (Gr.ju hp) (λm=>by
  have:=fu m (s.ob i x a e1 e2);refine aq ?_;obtain⟨_,z,_⟩:=this;exact ao z hp) (s.ob i x a e1 e2)⟩
theorem bN.new(s:bN K ρ h H){p:NQ}{ho:HO}{o:PO}(hp:H p=NI)(r:iI K (ρ ++[p]) (upd H p ho) p o):bN K (ρ ++[p]) (h++[o]) (upd H p ho):=by
 have g:Gr ρ H (ρ ++[p]) (upd H p ho):=Gr.new hp [p];have old: ∀{i:Nat}{x:PO},(h++[o])[i]?=NG x->(i < h.length/\h[i]?=NG x)\/(i=h.length/\x=o):=λ{i x} e=>by
  rcases Qu i h.length with z | z
  . rw[N3 z] at e;exact .inl ⟨z,e⟩
  . rw[Oz z] at e;have:i - h.length=0:=by
     rcases Nat.eq_zero_or_pos (i - h.length) with y | y
     . exact y
     . rw[QJ (by simp;omega)] at e;nomatch e
    rw[this] at e;exact .inr ⟨by omega,by simpa using e.symm⟩
 have oldρ : ∀{i:Nat}{a:NQ},i < h.length->(ρ ++[p])[i]?=NG a-> ρ[i]?=NG a:=λ{i a} z e=>by
  rw[N3 (by rw[s.len];exact z)] at e;exact e
 have newρ : ∀{a:NQ},(ρ ++[p])[h.length]?=NG a->a=p:=λ{a} e=>by
  rw[<- s.len,Oz (NS _)] at e;simpa using e.symm
 refine⟨by simp[s.len],λi j a oi oj ei ej mi mj ri rj=>?_,λi x a e1 e2=>?_⟩
 . rcases old ei with⟨zi,ei⟩ | ⟨zi,ei⟩<;>rcases old ej with⟨zj,ej⟩ | ⟨zj,ej⟩
   . exact s.nd i j a oi oj ei ej mi mj (oldρ zi ri) (oldρ zj rj)
   . subst zj;have:=fu mi (s.ob i oi a ei (oldρ zi ri));rw[newρ rj] at this;obtain⟨_,z,_⟩:=this;rw[hp] at z;nomatch z
   . subst zi;have:=fu mj (s.ob j oj a ej (oldρ zj rj));rw[newρ ri] at this;obtain⟨_,z,_⟩:=this;rw[hp] at z;nomatch z
   . rw[zi,zj]
 . rcases old e1 with⟨z,e⟩ | ⟨z,e⟩
   . refine iH g (λm=>?_) (s.ob i x a e (oldρ z e2));have:=fu m (s.ob i x a e (oldρ z e2));refine aq ?_;obtain ⟨_,y,_⟩:=this;exact ao y hp
   . subst z;subst e;rw [newρ e2];exact r
theorem Gr.u6{a : NQ}{ho : HO}(m : Je H a) : Gr ρ H ρ (upd H a ho) := by
  obtain ⟨o, z, n1, n2⟩ := m;refine ⟨λ_ _ h => h, λb xs e => ?_, λb o u e => ?_⟩ <;> (rw [aq]; · exact e)
  . rintro rfl; rw [z] at e; exact n1 _ (OF e)
  . rintro rfl; rw [z] at e; exact n2 _ _ (OF e)
theorem Gr.write{a:NQ}{ho:HO}(m:(∃ vs,H a=NG (.lst vs))∨ ∃ kws,H a=NG (.dK kws)):Gr ρ H ρ (upd H a ho) :=
 Gr.u6 (m.elim (λ⟨_,z⟩=>⟨_,z,(λ_ z=>HO.noConfusion z),λ_ _ z=>HO.noConfusion z⟩) λ⟨_,z⟩=>⟨_,z,(λ_ z=>HO.noConfusion z),λ_ _ z=>HO.noConfusion z⟩)
theorem bN.write(s:bN K ρ h H){i:Nat}{a:NQ}{ho:HO}{o o':PO}(e:h[i]?=NG o)(ea: ρ[i]?=NG a)(m:o.dA=true)(m':o'.dA=true)(r:iI K ρ (upd H a ho) a o') :
  bN K ρ (h.set i o') (upd H a ho):=by
 have ma:=fu m (s.ob i o a e ea);have g:Gr ρ H ρ (upd H a ho):=Gr.u6 ma;have hi:i < h.length:=(NN.mp e).1;have at_: ∀{j:Nat}{x:PO},(h.set i o')[j]?=NG x->(j=i/\x=o')\/(j≠i/\h[j]?=NG x):=λ{j x} q=>by
  by_cases z:j=i
  . subst z;rw[OO hi] at q;exact .inl ⟨rfl,by simpa using q.symm⟩
  . rw[OP (PX z)] at q;exact .inr ⟨z,q⟩
 refine⟨by simp[s.len],λj k b oj ok ej ek mj mk rj rk=>?_,λj x b e1 e2=>?_⟩
 . rcases at_ ej with⟨zj,_⟩ | ⟨_,ej2⟩<;>rcases at_ ek with⟨zk,_⟩ | ⟨_,LH⟩
   . rw[zj,zk]
   . rw[zj] at rj ⊢; exact s.nd _ _ b o ok e LH m mk rj rk
   . rw[zk] at rk ⊢; exact s.nd _ _ b oj o ej2 e mj m rj rk
   . exact s.nd j k b oj ok ej2 LH mj mk rj rk
 . rcases at_ e1 with⟨rfl,rfl⟩ | ⟨z,e1⟩
   . rw[ea] at e2;cases e2;exact r
   . refine iH g (λmx=>aq λq=>z ?_) (s.ob j x b e1 e2);subst q;exact s.nd j i b x o e1 e mx m e2 ea
end
inductive RV(α :Type) where
 | ok (a: α) (h:PH) | ex (c:Nat) (vs:List (Str × PV)) (h:PH) | no
variable{α β :Type}
noncomputable def RV.bind:RV α ->(α ->PH->RV β)->RV β
 | .ok a h,f=>f a h
 | .ex c vs h,_=> .ex c vs h
 | .no,_=> .no
theorem d6:(RV.ok a h).bind f=f a h:=rfl
theorem bind_eq{r:RV α}:r.bind f= .ok b h'↔ ∃ a h,r= .ok a h/\f a h= .ok b h':=by
 cases r with
 | ok a h=>exact⟨λe=>⟨a,h,rfl,e⟩,by rintro ⟨a',h2,e,q⟩;exact by cases e;exact q⟩
 | ex c vs h=>exact⟨λe=>(by cases e),by simp_all⟩
 | no=>exact⟨λe=>(by cases e),by simp_all⟩
def Ok(r:RV α)(Q: α ->PH->Prop):= ∃ a h,r= .ok a h/\Q a h
abbrev CF:=String->List PV->PH->RV PV
abbrev ME:=CF->aG->PH->RV PV
abbrev MT:=CF->aG->PH->RV Bool
abbrev MA:=CF->aG->PH->RV (List PV)
inductive Fl where
 | nx (e:aG) | rt (v:PV) | bk (e:aG) | ct (e:aG)
abbrev MS:=CF->aG->PH->RV Fl
abbrev MG:=PV->aG->PH->RV aG
structure kD where
 gd:Option Nat
 items:List PV
abbrev MI:=CF->aG->PH->RV kD
structure Df where
 ps:List Str
 nl:Nat
 body:MS
structure Tb where
 fns:String->Option Df
 con:Str->Option PV
 vd:Str->Option (List (Key × PV))
 KA:String->Option (String × Str × Df)
 cls:String->Option (Nat × String)
 adr:String->Option (Nat × List Str)
 rz:String->Bool:=λ_=>false
noncomputable def Tb.df(pg:Tb)(f:String):Option Df:=match pg.fns f with
 | some d=>NG d
 | none=>(pg.KA f).map (·.2.2)
def bE(n:Nat):PH->PH->Bool
 | [],_=>true
 | _::_,[]=>false
 | o::h,o'::h'=>(decide (o=o')||(o'.fJ n&&o.dA == o'.dA))&&bE n h h'
def settle(h:PH)(v:PV)(h':PH):RV PV:=if (v.flat&&bE h.length h h')=true then .ok v (h'.take h.length) else .ok v h'
def cF(h:PH)(C:Nat)(us:List (Str × PV))(h':PH):RV PV:=if (PV.bF (us.map (·.2))&&bE h.length h h')=true then .ex C us (h'.take h.length) else .ex C us h'
theorem d7 n: ∀ h g,bE n h (h++g)=true
 | [],g=>rfl
 | o::h,g=>by rw[Qn,bE,d7 n h g];simp
theorem jS(hu:o'.fJ n=true): ∀ h h' i o,bE n h h'=true->h[i]?=NG o->o.dA=o'.dA->bE n h (h'.set i o')=true
 | [],h',i,o,_,e,_=>by simp at e
 | a::h,[],i,o,q,_,_=>by simp[bE] at q
 | a::h,b::h',0,o,q,e,m=>by
  rw[bE,N7] at q;simp at e;subst e;rw[List.set_cons_zero,bE,q.2,hu,m];simp
 | a::h,b::h',i+1,o,q,e,m=>by
  rw[bE,N7] at q;rw[List.set_cons_succ,bE,jS hu h h' i o q.2 (by simpa using e) m,q.1];rfl
theorem jJ: ∀{h h'},bE n h h'=true->h.length<=h'.length
 | [],h',_=>OU _
 | o::h,[],e=>by simp[bE] at e
 | o::h,o'::h',e=>by
  rw[bE,N7] at e;exact Nat.succ_le_succ (jJ e.2)
theorem lV: ∀{h h'}{i:Nat}{o'},bE n h h'=true->(h'.take h.length)[i]?=NG o'-> ∃ o,h[i]?=NG o/\o.dA=o'.dA/\(o=o'\/o'.fJ n=true)
 | [],h',i,o',_,e=>by simp at e
 | a::h,[],i,o',q,_=>by simp[bE] at q
 | a::h,b::h',0,o',q,e=>by
  rw[bE,N7,R9,N7] at q;simp at e;subst e;refine⟨a,rfl,?_,?_⟩
  . rcases q.1 with z | z
    . rw[of_decide_eq_true z]
    . simpa using z.2
  . rcases q.1 with z | z
    . exact .inl (of_decide_eq_true z)
    . exact .inr z.1
 | a::h,b::h',i+1,o',q,e=>by
  rw[bE,N7] at q;simpa using lV q.2 (by simpa using e)
def run(pg:Tb):Nat->CF
 | 0,_,_,_=> .no
 | k+1,f,vs,h=>match pg.df f with
  | none=>(match pg.cls f with
   | some q=>(match run pg k q.2 (.ref h.length::vs) (h++[.obj q.1 []]) with
    | .ok .non h'=> .ok (.ref h.length) h'
    | _=> .no)
   | none=>(match pg.adr f with
    | some q=> .ok (.int q.1) h
    | none=> .no))
  | some d=>if vs.length=d.ps.length then
    (match d.body (run pg k) (vs.map NG++NM d.nl NI) h with
    | .ok (.rt v) h'=>settle h v h'
    | .ok (.nx _) h'=>settle h .non h'
    | .ok _ _=> .no
    | .ex c us h'=>if pg.rz f=true then cF h c us h' else .no
    | .no=> .no)
   else .no
theorem j3{pg:Tb}{f:String}{d:Df}(h:pg.fns f=NG d):pg.df f=NG d:=by unfold Tb.df;rw[h]
def cA(K:NH)(ρ :List NQ) H v h' (Q:VK):= ∀ v' ρ' H',Gr ρ H ρ' H'->bN K ρ' h' H'->rel K ρ' H' v v'->Q v' H'
def hI(K:NH)(ρ :List NQ) H h' (Q:Hp->Prop):= ∀ ρ' H',Gr ρ H ρ' H'->bN K ρ' h' H'->Q H'
def Ck(K:NH)(ρ :List NQ) H (vs:List PV) h' (Q:List V->Hp->Prop):= ∀ us ρ' H',Gr ρ H ρ' H'->bN K ρ' h' H'->ah K ρ' H' vs us->Q us H'
def dj(K:NH)(ρ :List NQ)(H:Hp)(C:Nat)(us:List (Str × PV))(h':PH)(E:XK):Prop:= ∀ dx od fws ρ' H',Gr ρ H ρ' H'->bN K ρ' h' H'->H' dx=NG (.dw od (.xd fws))->Pd (λ(p:Str × PV) (q:Str × V)=>p.1=q.1∧rel K ρ' H' p.2 q.2) us fws->E (.ref C) (NG dx) H'
structure bM (K:NH) (ρ :List NQ) (H:Hp) (e:aG) (σ :L2.St):Prop where
 len:e.length= σ.length
 get: ∀(i:Nat)(v:PV),e[i]?=NG (NG v)-> ∃ v', σ[i]?=NG (NG v')∧rel K ρ H v v'
def dW(K:NH)(ρ :List NQ) H e' h' (Q:L2.St->Hp->Prop):= ∀ σ' ρ' H',Gr ρ H ρ' H'->bN K ρ' h' H'->bM K ρ' H' e' σ'->Q σ' H'
def lI(K:NH)(ρ :List NQ)(H:Hp)(D:Ends)(h':PH):Fl->Prop
 | .nx e=>dW K ρ H e h' D.nx
 | .bk e=>dW K ρ H e h' D.bk
 | .ct e=>dW K ρ H e h' D.ct
 | .rt v=>cA K ρ H v h' D.rt
section
variable{K:NH}{ρ ρ1:List NQ}{H H1:Hp}{h':PH}
theorem bM.gr(r:bM K ρ H e σ)(g:Gr ρ H ρ1 H1):bM K ρ1 H1 e σ :=⟨r.len,λi v q=>by obtain⟨v',a,b⟩:=r.get i v q;exact⟨v',a,rel.gr g _ _ b⟩⟩
theorem bM.set(r:bM K ρ H e σ) i (h:rel K ρ H v v'):bM K ρ H (e.set i (NG v)) (σ.set i (NG v')):=by
 refine⟨by simp[r.len],λj x q=>?_⟩;by_cases z:j=i
 . subst z;have hj:j < e.length:=by
    have:=(NN.mp q).1;simpa using this
   rw[OO hj] at q;cases q;exact⟨v',OO (by rw[<- r.len];exact hj),h⟩
 . rw[OP (PX z)] at q ⊢;exact r.get j x q
theorem bM.more(r:bM K ρ H e σ) k:bM K ρ H (e++NM k NI) (σ ++NM k NI):=by
 refine⟨by simp[r.len],λj x q=>?_⟩;rcases Qu j e.length with z | z
 . rw[N3 z] at q;rw[N3 (by rw[<- r.len];exact z)];exact r.get j x q
 . rw[Oz z,Pk] at q;split at q<;>nomatch q
theorem cA.gr(p:cA K ρ H v h' Q)(g:Gr ρ H ρ1 H1):cA K ρ1 H1 v h' Q:=λv' ρ' H' g'=>p v' ρ' H' (g.trans g')
theorem dj.gr{C:Nat}{us:List (Str × PV)}{E:XK}(p:dj K ρ H C us h' E)(g:Gr ρ H ρ1 H1):dj K ρ1 H1 C us h' E:=λdx od fws ρ' H' g'=>p dx od fws ρ' H' (g.trans g')
theorem hI.gr(p:hI K ρ H h' Q)(g:Gr ρ H ρ1 H1):hI K ρ1 H1 h' Q:=fun ρ' H' g'=>p ρ' H' (g.trans g')
theorem dW.gr(p:dW K ρ H e h' Q)(g:Gr ρ H ρ1 H1):dW K ρ1 H1 e h' Q:=λv' ρ' H' g'=>p v' ρ' H' (g.trans g')
theorem lI.gr(p:lI K ρ H D h' f)(g:Gr ρ H ρ1 H1):lI K ρ1 H1 D h' f:=by
 cases f with
 | nx e=>exact dW.gr p g
 | bk e=>exact dW.gr p g
 | ct e=>exact dW.gr p g
 | rt e=>exact cA.gr p g
end
def SE c (K:NH) (t:TE) (m:ME):= ∀ ρ h H e σ Q v h',bN K ρ h H->bM K ρ H e σ ->m c e h= .ok v h'->cA K ρ H v h' Q->t σ H Q
def ST c (K:NH) (t:TT) (m:MT):= ∀ ρ h H e σ Q b h',bN K ρ h H->bM K ρ H e σ ->m c e h= .ok b h'->hI K ρ H h' (Q b)->t σ H Q
def SA c (K:NH) (t:TA) (m:MA):= ∀ ρ h H e σ Q vs h',bN K ρ h H->bM K ρ H e σ ->m c e h= .ok vs h'->Ck K ρ H vs h' Q->t σ H Q
def SS c (K:NH) (t:TS) (m:MS):= ∀ ρ h H e σ D f h',bN K ρ h H->bM K ρ H e σ ->m c e h= .ok f h'->lI K ρ H D h' f->t D σ H
def SG(K:NH)(t:TG)(m:MG):= ∀ ρ h H e σ Q v v' e' h',bN K ρ h H->bM K ρ H e σ ->rel K ρ H v v'->m v e h= .ok e' h'->dW K ρ H e' h' Q->t v' σ H Q
noncomputable def kD.gK(it:kD)(h:PH):Bool:=match it.gd with
 | none=>true
 | some n=>decide (h[n]?=NG (.lst it.items)\/h[n]?=NG (.gO it.items))
def Lz(K:NH)(ρ0:List NQ) H0 (J:It) (it:kD):= ∀ i ρ h H,Gr ρ0 H0 ρ H->bN K ρ h H->it.gK h=true ->
 (∀ x,it.items[i]?=NG x->J.go i H∧ ∀ v H',J.B3 i H v H'-> ∃ ρ',Gr ρ H ρ' H'∧bN K ρ' h H'∧rel K ρ' H' x v)∧(i=it.items.length->J.stop i H)
def SI c (K:NH) (t:TI) (m:MI):= ∀ ρ h H e σ R it h',bN K ρ h H->bM K ρ H e σ ->m c e h= .ok it h'->(∀ ρ' H' J,Gr ρ H ρ' H'->bN K ρ' h' H'->Lz K ρ' H' J it->R J H')->t σ H R
def ig(K:NH)(pg:Tb)(k:Nat)(f:String):Sp:=λvs H Q E=>(∃ ρ h args v h',bN K ρ h H∧ah K ρ H args vs∧run pg k f args h= .ok v h'∧cA K ρ H v h' Q)∨ ∃ ρ h args C us h',bN K ρ h H∧ah K ρ H args vs∧run pg k f args h= .ex C us h'∧dj K ρ H C us h' E
noncomputable def dn:List Str:=["len", "range", "isinstance", "int", "bool", "tuple", "dict", "sorted", "min", "max", "abs", "all", "any", "sum", "str", "list", "zip", "set", "repr", "enumerate"]
def v7(K:NH)(v:V):= ∀ a,v= .ref a-> ∃ o,K.lookup a=NG o∧o.cls= .type "tuple" ∧o.dict=NI
structure Hs (K:NH) (mg:Str->Option NJ) (pg:Tb):Prop where
 adr: ∀ c q,pg.adr c=NG q->KL K q.1∧ ∀ f∈q.2,Ga K q.1 f
 cls: ∀ x q,pg.cls x=NG q->mg (NP x)=NG (.ref q.1)/\VC K q.1=true/\OZ K (.ref q.1)=true/\ ∃ c d l,pg.KA q.2=NG (c,("__init__" :Str),d)/\pg.adr c=NG (q.1,l)
def HZ(P:Om)(w:OC)(K:NH)(mg:Str->Option NJ)(base:OQ)(pg:Tb)(j:Nat):Prop :=
 ∀ fn c m d,pg.KA fn=NG (c,m,d)->pg.fns fn=NI/\ ∀ q,pg.adr c=NG q-> ∃ fa fd,Meth K q.1 m fa/\fV P w K mg base (gz P w) j fa fd d.ps (ig K pg j fn)/\Binds K fd d.ps []
structure bO(X:Cx)(pg:Tb)(k:Nat):Prop where
 room:bZ k X.A
 calm:X.calm=true
 c8: ∀ v s,¬ X.xe v s
 defs: ∀ f d,pg.fns f=NG d->iq X.prog X.w X.K X.mg X.base (NP f) k d.ps (ig X.K pg k f)
 blt: ∀ x∈dn,X.mg x=NI
 con: ∀ x v,pg.con x=NG v-> ∃ u v',X.mg x=NG u/\RelV v' u/\v7 X.K v'/\ ∀ ρ H,rel X.K ρ H v v'
 vd: ∀ x kvs,pg.vd x=NG kvs-> ∃ a kws,X.mg x=NG (.ref a)/\KD X.prog X.w X.K a kws/\ ∀ ρ H,Pd (λ(p:Key × PV) (q:Key × V)=>p.1=q.1/\rel X.K ρ H p.2 q.2) kvs kws
 ct:Hs X.K X.mg pg
 mt: ∀ j,j<=k->HZ X.prog X.w X.K X.mg X.base pg j
theorem bO.bQ{X:Cx}{pg:Tb}{k:Nat}(a:bO X pg k)(vars:List Str)(scope:Q5)(cl:List (Str × NQ))(C:NQ)(s₀ :NO)(H₀ :Hp)(ex:List NQ)(pn:List (NQ × Obj)):bO (bQ X vars scope cl C s₀ H₀ ex pn) pg k :=
 ⟨a.room,a.calm,a.c8,a.defs,a.blt,a.con,a.vd,a.ct,a.mt⟩
structure JE(X:Cx)(pg:Tb)(k:Nat)(e:Ou)(m:ME):Prop where h:bO X pg k-> ∃ t,QE X e t/\SE (run pg k) X.K t m
structure JT(X:Cx)(pg:Tb)(k:Nat)(e:Ou)(m:MT):Prop where h:bO X pg k-> ∃ t,QT X e t/\ST (run pg k) X.K t m
structure JW(X:Cx)(pg:Tb)(k:Nat)(e:Ou)(m:MT):Prop where h:bO X pg k-> ∃ t,QW X e t/\ST (run pg k) X.K t m
structure JA(X:Cx)(pg:Tb)(k:Nat)(e:List Ou)(m:MA):Prop where h:bO X pg k-> ∃ t,QA X e t/\SA (run pg k) X.K t m
structure JS(X:Cx)(pg:Tb)(k:Nat)(s:Pn)(m:MS):Prop where h:bO X pg k-> ∃ t,QS X s t/\SS (run pg k) X.K t m
structure uG(X:Cx)(pg:Tb)(k:Nat)(s:List Pn)(m:MS):Prop where h:bO X pg k-> ∃ t,yf X s t/\SS (run pg k) X.K t m
structure JG(X:Cx)(pg:Tb)(k:Nat)(e:Ou)(m:MG):Prop where h:bO X pg k-> ∃ t,QG X e t/\SG X.K t m
structure JI(X:Cx)(pg:Tb)(k:Nat)(tg e:Ou)(m:MI):Prop where h:bO X pg k-> ∃ t,QI X tg e t/\SI (run pg k) X.K t m
structure JF(X:Cx)(pg:Tb)(k:Nat)(es:List Ou)(m:MT):Prop where h:bO X pg k-> ∃ t,QF X es t/\ST (run pg k) X.K t m
def eP(K:NH)(ρ :List NQ)(H:Hp)(Q:VK)(E:XK):RV PV->Prop
 | .ok v h'=>cA K ρ H v h' Q
 | .ex C us h'=>dj K ρ H C us h' E
 | .no=>False
def Kf(K:NH)(ρ :List NQ)(H:Hp)(Q:List V->Hp->Prop)(E:XK):RV (List PV)->Prop
 | .ok v h'=>Ck K ρ H v h' Q
 | .ex C us h'=>dj K ρ H C us h' E
 | .no=>False
def jX(K:NH)(ρ :List NQ)(H:Hp)(D:Ends)(E:XK):RV Fl->Prop
 | .ok f h'=>lI K ρ H D h' f
 | .ex C us h'=>dj K ρ H C us h' E
 | .no=>False
def JR(E:XK)(c:CF)(K:NH)(t:TE)(m:ME):Prop:= ∀ ρ h H e σ Q,bN K ρ h H->bM K ρ H e σ ->eP K ρ H Q E (m c e h)->t σ H Q
def Ml(E:XK)(c:CF)(K:NH)(t:TA)(m:MA):Prop:= ∀ ρ h H e σ Q,bN K ρ h H->bM K ρ H e σ ->Kf K ρ H Q E (m c e h)->t σ H Q
def K5(E:XK)(c:CF)(K:NH)(t:TS)(m:MS):Prop:= ∀ ρ h H e σ D,bN K ρ h H->bM K ρ H e σ ->jX K ρ H D E (m c e h)->t D σ H
structure kE(X:Cx)(pg:Tb)(k:Nat)(E:XK):Prop where
 a:bO X.c8 pg k
 pc:dY X E
 own:xY X E
structure lj(X:Cx)(pg:Tb)(k:Nat)(E:XK)(e:Ou)(m:ME):Prop where h:kE X pg k E-> ∃ t,QE X e t/\JR E (run pg k) X.K t m
structure Ct(X:Cx)(pg:Tb)(k:Nat)(E:XK)(e:List Ou)(m:MA):Prop where h:kE X pg k E-> ∃ t,QA X e t/\Ml E (run pg k) X.K t m
structure yi(X:Cx)(pg:Tb)(k:Nat)(E:XK)(s:Pn)(m:MS):Prop where h:kE X pg k E-> ∃ t,QS X s t/\K5 E (run pg k) X.K t m
structure kS(X:Cx)(pg:Tb)(k:Nat)(E:XK)(s:List Pn)(m:MS):Prop where h:kE X pg k E-> ∃ t,yf X s t/\K5 E (run pg k) X.K t m
def JB(X:Cx)(pg:Tb)(k:Nat)(f:String)(E:XK)(s:List Pn)(m:MS):Prop:=(pg.rz f=false/\uG X.c8 pg k s m)\/kS X pg k E s m
def iy(K:NH)(r:R2)(f:PV->PV->PH->RV PV):= ∀ ρ h H x y x' y' Q v h',bN K ρ h H->rel K ρ H x x'->rel K ρ H y y'->f x y h= .ok v h'->cA K ρ H v h' Q->r x' y' H Q
def uI(K:NH)(r:List V->Hp->VK->Prop)(f:List PV->PH->RV PV):= ∀ ρ h H xs us Q v h',bN K ρ h H->ah K ρ H xs us->f xs h= .ok v h'->cA K ρ H v h' Q->r us H Q
def Ja(K:NH)(T:String)(r:V->List V->Hp->VK->Prop)(f:PV->List PV->PH->RV PV)(ty:PV->PH->Bool) :=
 (∀ ρ h H x x',bN K ρ h H->rel K ρ H x x'->ty x h=true->Hx K T x' H) /\
 ∀ ρ h H x x' xs us Q v h',bN K ρ h H->rel K ρ H x x'->ah K ρ H xs us->f x xs h= .ok v h'->cA K ρ H v h' Q->r x' us H Q
noncomputable def aa(i:Nat):ME:=λ_ e h=>match e[i]? with
 | some (NG v)=> .ok v h
 | _=> .no
noncomputable def eC(v:PV):ME:=λ_ _ h=> .ok v h
def aD(f:PV->PV->PH->RV PV)(a b:ME):ME:=λc e h=>(a c e h).bind λx h1=>(b c e h1).bind λy h2=>f x y h2
def nM(f:PV->PH->RV PV)(a:ME):ME:=λc e h=>(a c e h).bind f
noncomputable def pU(v:PV)(h:PH):RV Bool:=match v with
 | .bl b=> .ok b h
 | _=> .no
def oO(a b:ME):ME:=λc e h=>((a c e h).bind pU).bind λx h1=>if x=true then b c e h1 else .ok (.bl false) h1
def LX(a b:ME):ME:=λc e h=>((a c e h).bind pU).bind λx h1=>if x=true then .ok (.bl true) h1 else b c e h1
def qY(t:MT)(a b:ME):ME:=λc e h=>(t c e h).bind λx h1=>if x=true then a c e h1 else b c e h1
def aV(a:ME):MT:=λc e h=>(a c e h).bind pU
def yu(a b:MT):MT:=λc e h=>(a c e h).bind λx h1=>if x=true then b c e h1 else .ok false h1
def yK(a b:MT):MT:=λc e h=>(a c e h).bind λx h1=>if x=true then .ok true h1 else b c e h1
def j6(a:MT):MT:=λc e h=>(a c e h).bind λx h1=> .ok (!x) h1
noncomputable def aU:MT:=λ_ _ h=> .ok true h
noncomputable def aA:MA:=λ_ _ h=> .ok [] h
def ag(a:ME)(r:MA):MA:=λc e h=>(a c e h).bind λx h1=>(r c e h1).bind λxs h2=> .ok (x::xs) h2
noncomputable def kN n (r:RV α):=if n<=NZ then r else .no
def cC(r:MA):ME:=λc e h=>(r c e h).bind λxs h1=>kN xs.length (.ok (.tup xs) h1)
def bP(r:MA):ME:=λc e h=>(r c e h).bind λxs h1=>kN xs.length (.ok (.ref h1.length) (h1++[.lst xs]))
def ai(f:String)(r:MA):ME:=λc e h=>(r c e h).bind λxs h1=>c f xs h1
def eB(f:List PV->PH->RV PV)(r:MA):ME:=λc e h=>(r c e h).bind f
def eM(f:PV->List PV->PH->RV PV)(ty:PV->PH->Bool)(a:ME)(r:MA):ME:=λc e h=>(a c e h).bind λx h1=>if ty x h1=true then(r c e h1).bind λxs h2=>f x xs h2 else .no
def iK(f g:PV->PV->PH->RV PV)(a b d:ME):ME:=λc e h=>(a c e h).bind λx h1=>(b c e h1).bind λy h2=>((f x y h2).bind pU).bind λk h3=>if k=true then(d c e h3).bind λz h4=>g y z h4 else .ok (.bl false) h3
theorem eg:kN n r= .ok a h↔n<=NZ/\r= .ok a h:=by
 unfold kN;split
 . exact⟨λe=>⟨by assumption,e⟩,λe=>e.2⟩
 . exact⟨λe=>(by cases e),λe=>absurd e.1 (by assumption)⟩
theorem mK:pU v h= .ok b h'↔v= .bl b/\h'=h:=by
 cases v<;>simp[pU,eq_comm]
section
variable{X:Cx}{pg:Tb}{k:Nat}{a b c d e:Ou}{es:List Ou}{ma mb mc md:ME}{mr:MA}{mt mt':MT}{pos p pos' apos cpos:Pos}{x:Str}
theorem Du i (hN:X.N[i]?=NG x:=by rfl) (hv:FK X.env.scope x:=by first | exact RX rfl | exact RL (RX rfl) | exact RL (RL rfl)) (hd:(x == ("__debug__"))=false:=by decide)
  (hcd:(x == ("__classdict__"))=false:=by decide):JE X pg k (.Name x pos) (aa i):=⟨λA=>⟨_,qv i hN hv hd hcd,fun ρ h H e σ Q v h' s r q P=>by
 unfold aa at q;split at q
 . cases q;obtain⟨v',e1,e2⟩:=r.get i v (by assumption);exact⟨v',e1,P v' ρ H (.refl _ _) s e2⟩
 . cases q⟩⟩
theorem qi{K}(hr: ∀ ρ H,rel K ρ H v v'):SE cf K (tC v') (eC v):=fun ρ h H e σ Q w h' s r q P=>by cases q;exact P v' ρ H (.refl _ _) s (hr ρ H)
theorem CY:JE X pg k (.Constant (.int n) j pos) (eC (.int n)):=⟨λA=>⟨_,FU,qi fun ρ H=>by rw[rel]⟩⟩
theorem HH:JE X pg k (.Constant (.bool n) j pos) (eC (.bl n)):=⟨λA=>⟨_,Hv,qi fun ρ H=>by rw[rel]⟩⟩
theorem Eh:JE X pg k (.Constant .none j pos) (eC .non):=⟨λA=>⟨_,DY,qi fun ρ H=>by rw[rel]⟩⟩
theorem DH:JE X pg k (.Constant (.str n) j pos) (eC (.str n)):=⟨λA=>⟨_,vJ,qi fun ρ H=>by rw[rel]⟩⟩
theorem GN(hc:pg.con x=NG v)(hg:Gl X x)(hd:(x == ("__debug__"))=false:=by decide):JE X pg k (.Name x pos) (eC v):=⟨λA=>by obtain⟨u,v',e1,e2,_,e3⟩:=A.con x v hc;exact⟨_,Ae hg e1 e2 hd,qi e3⟩⟩
theorem su(hg:Gl X x)(hb:x∈dn)(hv:OX x=NG (.type T))(hn:x≠ "__name__" :=by decide)(hd:(x == ("__debug__"))=false:=by decide):JE X pg k (.Name x pos) (eC (.ty T)) :=
 ⟨λA=>⟨_,zY (v:= .ty T) hg (A.blt x hb) hv rfl hn hd,qi fun ρ H=>by rw[rel]⟩⟩
theorem rK{K}(ho:iy K r f)(ha:SE cf K ta ma)(hb:SE cf K tb mb):SE cf K (zB r ta tb) (aD f ma mb):=fun ρ h H e σ Q v h' s r q P=>by
 obtain⟨x,h1,e1,q⟩:=bind_eq.mp q;obtain⟨y,h2,e2,q⟩:=bind_eq.mp q;refine ha ρ h H e σ _ x h1 s r e1 λx' ρ1 H1 g1 s1 r1=>?_;refine hb ρ1 h1 H1 e σ _ y h2 s1 (r.gr g1) e2 λy' ρ2 H2 g2 s2 r2=>?_;exact ho ρ2 h2 H2 x y x' y' Q v h' s2 (rel.gr g2 _ _ r1) r2 q (P.gr (g1.trans g2))
theorem Kq(ho:bO X pg k-> ∃ r,bT X (O3 op) r/\iy X.K r f)(ha:JE X pg k a ma)(hb:JE X pg k b mb):JE X pg k (.BinOp a op b pos) (aD f ma mb):=⟨λA =>
 let ⟨_,q1,s1⟩:=ha.h A;let ⟨_,q2,s2⟩:=hb.h A;by obtain⟨_,q,s⟩:=ho A;exact⟨_,J8 q q1 q2,rK s s1 s2⟩⟩
theorem xP(ho:bO X pg k-> ∃ r,bT X (Ol op) r/\iy X.K r f)(ha:JE X pg k a ma)(hb:JE X pg k b mb)(hm:Pl op b=false):JE X pg k (.Compare a [op] [b] pos) (aD f ma mb):=⟨λA =>
 let ⟨_,q1,s1⟩:=ha.h A;let ⟨_,q2,s2⟩:=hb.h A;by obtain⟨_,q,s⟩:=ho A;exact⟨_,Be q q1 q2 hm,rK s s1 s2⟩⟩
theorem jQ{K}(ha:SE cf K ta ma):ST cf K (pT ta) (aV ma):=fun ρ h H e σ Q v h' s r q P=>by
 obtain⟨x,h1,e1,q⟩:=bind_eq.mp q;obtain⟨rfl,rfl⟩:=mK.mp q;refine ha ρ h H e σ _ _ _ s r e1 λx' ρ1 H1 g1 s1 r1=>?_;exact⟨v,r1,P ρ1 H1 g1 s1⟩
theorem xO(ho:bO X pg k-> ∃ r,bT X (Ol op) r/\iy X.K r f)(ha:JE X pg k a ma)(hb:JE X pg k b mb)(hm:Pl op b=false):JT X pg k (.Compare a [op] [b] pos) (aV (aD f ma mb)):=⟨λA =>
 let ⟨_,q1,s1⟩:=ha.h A;let ⟨_,q2,s2⟩:=hb.h A;by obtain⟨_,q,s⟩:=ho A;exact⟨_,Ac q q1 q2 hm,jQ (rK s s1 s2)⟩⟩
theorem Dq(ha:JE X pg k e ma)(he: ∀ whole,UG e X.env whole=(do let v <- whole;UW e.pos;RZ [v] (truthy v)):=by intro _;rfl):JT X pg k e (aV ma):=⟨λA =>
 by obtain⟨_,q1,s1⟩:=ha.h A;exact⟨_,vm q1 he,jQ s1⟩⟩
theorem Dh(h:JE X pg k a ma):JE X pg k (.BoolOp op [a] pos) ma:=⟨λA=>by obtain⟨_,q1,s1⟩:=h.h A;exact⟨_,Dv q1,s1⟩⟩
theorem FL{rest}(ha:JE X pg k a ma)(hb:JE X pg k (.BoolOp .And (b::rest) pos) mb):JE X pg k (.BoolOp .And (a::b::rest) pos) (oO ma mb):=⟨λA =>
 by obtain⟨_,q1,s1⟩:=ha.h A;exact by obtain⟨_,q2,s2⟩:=hb.h A;exact⟨_,Dz q1 q2,fun ρ h H e σ Q v h' s r q P=>by
  obtain⟨x,h2,q2,q⟩:=bind_eq.mp q;obtain⟨y,h1,e1,q2⟩:=bind_eq.mp q2;obtain⟨rfl,rfl⟩:=mK.mp q2;refine s1 ρ h H e σ _ _ _ s r e1 λx' ρ1 H1 g1 z1 r1=>?_;refine⟨x,r1,?_⟩;cases x with
  | true=>exact s2 ρ1 _ H1 e σ _ _ _ z1 (r.gr g1) q (P.gr g1)
  | false=>cases q;exact P _ ρ1 H1 g1 z1 (by rw[rel])⟩⟩
theorem JV{rest}(ha:JE X pg k a ma)(hb:JE X pg k (.BoolOp .Or (b::rest) pos) mb):JE X pg k (.BoolOp .Or (a::b::rest) pos) (LX ma mb):=⟨λA =>
 by obtain⟨_,q1,s1⟩:=ha.h A;exact by obtain⟨_,q2,s2⟩:=hb.h A;exact⟨_,JH q1 q2,fun ρ h H e σ Q v h' s r q P=>by
  obtain⟨x,h2,q2,q⟩:=bind_eq.mp q;obtain⟨y,h1,e1,q2⟩:=bind_eq.mp q2;obtain⟨rfl,rfl⟩:=mK.mp q2;refine s1 ρ h H e σ _ _ _ s r e1 λx' ρ1 H1 g1 z1 r1=>?_;refine⟨x,r1,?_⟩;cases x with
  | false=>exact s2 ρ1 _ H1 e σ _ _ _ z1 (r.gr g1) q (P.gr g1)
  | true=>cases q;exact P _ ρ1 H1 g1 z1 (by rw[rel])⟩⟩
theorem xI(hc:JT X pg k c mt)(ha:JE X pg k a ma)(hb:JE X pg k b mb):JE X pg k (.IfExp c a b pos) (qY mt ma mb):=⟨λA =>
 by obtain⟨_,q0,s0⟩:=hc.h A;exact let ⟨_,q1,s1⟩:=ha.h A;let ⟨_,q2,s2⟩:=hb.h A;⟨_,oz q0 q1 q2,fun ρ h H e σ Q v h' s r q P=>by
  obtain⟨x,h1,e1,q⟩:=bind_eq.mp q;refine s0 ρ h H e σ _ _ _ s r e1 fun ρ1 H1 g1 z1=>?_;cases x with
  | true=>exact s1 ρ1 _ H1 e σ _ _ _ z1 (r.gr g1) q (P.gr g1)
  | false=>exact s2 ρ1 _ H1 e σ _ _ _ z1 (r.gr g1) q (P.gr g1)⟩⟩
theorem E2(ha:JT X pg k a mt):JW X pg k (.BoolOp .Or [a] pos) mt:=⟨λA=>by obtain⟨_,q1,s1⟩:=ha.h A;exact⟨_,CK q1,s1⟩⟩
theorem Co{rest}(ha:JT X pg k a mt)(hb:JW X pg k (.BoolOp .Or (b::rest) pos) mt'):JW X pg k (.BoolOp .Or (a::b::rest) pos) (yK mt mt'):=⟨λA =>
 by obtain⟨_,q1,s1⟩:=ha.h A;exact by obtain⟨_,q2,s2⟩:=hb.h A;exact⟨_,Ji q1 q2,fun ρ h H e σ Q v h' s r q P=>by
  obtain⟨x,h1,e1,q⟩:=bind_eq.mp q;refine s1 ρ h H e σ _ _ _ s r e1 fun ρ1 H1 g1 z1=>?_;cases x with
  | false=>exact s2 ρ1 _ H1 e σ _ _ _ z1 (r.gr g1) q (P.gr g1)
  | true=>cases q;exact P ρ1 H1 g1 z1⟩⟩
theorem JW.pt(h:JW X pg k e mt):JT X pg k e mt:=⟨λA=>by obtain⟨_,q1,s1⟩:=h.h A;exact⟨_,q1.pt,s1⟩⟩
theorem ET(ha:JT X pg k a mt):JT X pg k (.UnaryOp .Not a pos) (j6 mt):=⟨λA=>by obtain⟨_,q1,s1⟩:=ha.h A;exact⟨_,xD q1,fun ρ h H e σ Q v h' s r q P=>by
  obtain⟨x,h1,e1,q⟩:=bind_eq.mp q;cases q;exact s1 ρ h H e σ _ _ _ s r e1 fun ρ1 H1 g1 z1=>P ρ1 H1 g1 z1⟩⟩
theorem Gd:JF X pg k [] aU:=⟨λA=>⟨_,Fc,fun ρ h H e σ Q v h' s r q P=>by cases q;exact P ρ H (.refl _ _) s⟩⟩
theorem Et(h:JT X pg k c mt):JF X pg k [c] mt:=⟨λA=>by obtain⟨_,q1,s1⟩:=h.h A;exact⟨_,Fx q1,s1⟩⟩
theorem Fe:JA X pg k [] aA:=⟨λA=>⟨_,DE,fun ρ h H e σ Q v h' s r q P=>by cases q;exact P [] ρ H (.refl _ _) s (bq.mpr rfl)⟩⟩
theorem yG(ha:JE X pg k e ma)(hr:JA X pg k es mr)(hs:noStar e=true:=by rfl):JA X pg k (e::es) (ag ma mr):=⟨λA =>
 by obtain⟨_,q1,s1⟩:=ha.h A;exact by obtain⟨_,q2,s2⟩:=hr.h A;exact⟨_,qk q1 q2 hs,fun ρ h H e σ Q v h' s r q P=>by
  obtain⟨x,h1,e1,q⟩:=bind_eq.mp q;obtain⟨xs,h2,e2,q⟩:=bind_eq.mp q;cases q;refine s1 ρ h H e σ _ _ _ s r e1 λx' ρ1 H1 g1 z1 r1=>?_;refine s2 ρ1 h1 H1 e σ _ _ _ z1 (r.gr g1) e2 λus ρ2 H2 g2 z2 r2=>?_;exact P _ ρ2 H2 (g1.trans g2) z2 (aB.mpr ⟨x',us,rfl,rel.gr g2 _ _ r1,r2⟩)⟩⟩
theorem D0(h:JA X pg k es mr):JE X pg k (.Tuple es x1 pos) (cC mr):=⟨λA =>
 by obtain⟨_,q1,s1⟩:=h.h A;exact⟨_,qK q1,fun ρ h H e σ Q v h' s r q P=>by
  obtain⟨xs,h1,e1,q⟩:=bind_eq.mp q;obtain⟨hl,q⟩:=eg.mp q;cases q;refine s1 ρ h H e σ _ _ _ s r e1 λus ρ1 H1 g1 z1 r1=>⟨by rw[<- r1.len];exact hl,λp hp=>?_⟩
  refine P _ ρ1 _ (g1.trans (Gr.ju hp)) (z1.tup hp) ?_;exact⟨p,us,rfl,aT,ah.gr (Gr.ju hp) _ _ r1⟩⟩⟩
theorem dJ{K}(s:bN K ρ h H)(r:ah K ρ H xs us)(P:cA K ρ H (.ref h.length) (h++[.lst xs]) Q) p (hp:H p=NI):Q (.ref p) (upd H p (.lst us)):=by
 refine P _ (ρ ++[p]) _ (Gr.new hp [p]) (s.new hp ⟨us,aT,ah.gr (Gr.new hp [p]) _ _ r⟩) ?_;exact⟨p,by rw[<- s.len,Oz (NS _)];simp,rfl⟩
theorem C2(h:JA X pg k es mr):JE X pg k (.List es pos) (bP mr):=⟨λA =>
 by obtain⟨_,q1,s1⟩:=h.h A;exact⟨_,FA q1,fun ρ h H e σ Q v h' s r q P=>by
  obtain⟨xs,h1,e1,q⟩:=bind_eq.mp q;obtain⟨hl,q⟩:=eg.mp q;cases q;exact s1 ρ h H e σ _ _ _ s r e1 λus ρ1 H1 g1 z1 r1=>⟨by rw[<- r1.len];exact hl,λp hp=>dJ z1 r1 (P.gr g1) p hp⟩⟩⟩
theorem AO{f:String}{d:Df}(hf:pg.fns f=NG d)(hg:Gl X (NP f))(ha:JA X pg k (e::es) mr)(hdb:(NP f == ("__debug__" :Str))=false:=by decide)(he:noStar e=true:=by rfl)(hpl:es.all noStar=true:=by rfl) :
  JE X pg k (.Call (.Name (NP f) p) (e::es) [] pos) (ai f mr):=⟨λA =>
 let ⟨_,q1,s1⟩:=ha.h A;⟨_,qd (A.defs f d hf) A.room hg (NS _) q1 hdb he hpl,fun ρ h H e σ Q v h' s r q P=>by
  obtain⟨xs,h1,e1,q⟩:=bind_eq.mp q;refine s1 ρ h H e σ _ _ _ s r e1 λus ρ1 H1 g1 z1 r1=>?_;rw[Ov];exact .inl ⟨ρ1,h1,xs,v,h',z1,r1,q,P.gr g1⟩⟩⟩
theorem Jw{K}(ho:uI K r f)(ha:SA cf K ta mr):SE cf K (Aj r ta) (eB f mr):=fun ρ h H e σ Q v h' s r q P=>by
 obtain⟨xs,h1,e1,q⟩:=bind_eq.mp q;exact ha ρ h H e σ _ _ _ s r e1 λus ρ1 H1 g1 z1 r1=>ho ρ1 h1 H1 xs us Q v h' z1 r1 q (P.gr g1)
theorem DR{id}(hc:bO X pg k-> ∃ r,aP X (.builtin id) r/\uI X.K r f)(hg:Gl X x)(hb:x∈dn)(hv:OX x=NG (.builtin id))(ha:JA X pg k (e::es) mr)
  (hn:x≠ "__name__" :=by decide) (hdb:(x == ("__debug__"))=false:=by decide) (he:noStar e=true:=by rfl) (hpl:es.all noStar=true:=by rfl):JE X pg k (.Call (.Name x p) (e::es) [] pos) (eB f mr):=⟨λA =>
 by obtain⟨_,q1,s1⟩:=ha.h A;exact by obtain⟨_,q,s⟩:=hc A;exact⟨_,qB q hg (A.blt x hb) hv q1 hn hdb he hpl,Jw s s1⟩⟩
theorem yO(hc:bO X pg k-> ∃ r,aP X (.type T) r/\uI X.K r f)(hg:Gl X x)(hb:x∈dn)(hv:OX x=NG (.type T))(ha:JA X pg k (e::es) mr)
  (hn:x≠ "__name__" :=by decide) (hdb:(x == ("__debug__"))=false:=by decide) (he:noStar e=true:=by rfl) (hpl:es.all noStar=true:=by rfl):JE X pg k (.Call (.Name x p) (e::es) [] pos) (eB f mr):=⟨λA =>
 by obtain⟨_,q1,s1⟩:=ha.h A;exact by obtain⟨_,q,s⟩:=hc A;exact⟨_,qT q hg (A.blt x hb) hv q1 hn hdb he hpl,Jw s s1⟩⟩
theorem Bz{id}(pa:VU T)(slot:Slot T name id)(hty:typeOf (.builtin id)=pure (.type "method_descriptor"))(hm:bO X pg k-> ∃ r,yq X id r/\Ja X.K T r f ty)
  (ho:JE X pg k d md) (ha:JA X pg k [e] mr) (hbase:Qe d name X.env (Py d X.env)=Py d X.env:=by rfl) (hline:(apos.endLine == cpos.line)=true:=by rfl) (hs:noStar e=true:=by rfl) :
  JE X pg k (.Call (.Attribute d name apos) [e] [] cpos) (eM f ty md mr):=⟨λA =>
 by obtain⟨_,q0,s0⟩:=ho.h A;exact by obtain⟨_,q1,s1⟩:=ha.h A;exact by obtain⟨_,q,s⟩:=hm A;exact⟨_,Hf pa slot hty q q0 q1 hbase hline hs,fun ρ h H e σ Q v h' z r q P=>by
  obtain⟨x,h1,e1,q⟩:=bind_eq.mp q;refine s0 ρ h H e σ _ _ _ z r e1 λx' ρ1 H1 g1 z1 r1=>?_;split at q
  . rename_i ht;obtain⟨xs,h2,e2,q⟩:=bind_eq.mp q;refine⟨s.1 ρ1 h1 H1 x x' z1 r1 ht,?_⟩;exact s1 ρ1 h1 H1 e σ _ _ _ z1 (r.gr g1) e2 λus ρ2 H2 g2 z2 r2=>s.2 ρ2 h2 H2 x x' xs us Q v h' z2 (rel.gr g2 _ _ r1) r2 q (P.gr (g1.trans g2))
  . simp_all⟩⟩
theorem oZ{K}(ho:iy K r f)(ho':iy K r' g)(ha:SE cf K ta ma)(hb:SE cf K tb mb)(hc:SE cf K tc mc):SE cf K (j5 r r' ta tb tc) (iK f g ma mb mc):=fun ρ h H e σ Q v h' s r q P=>by
 obtain⟨x,h1,e1,q⟩:=bind_eq.mp q;obtain⟨y,h2,e2,q⟩:=bind_eq.mp q;obtain⟨z,h3,e3,q⟩:=bind_eq.mp q;obtain⟨z0,h4,e4,e5⟩:=bind_eq.mp e3;obtain⟨rfl,rfl⟩:=mK.mp e5;refine ha ρ h H e σ _ x h1 s r e1 λx' ρ1 H1 g1 s1 r1=>?_;refine hb ρ1 h1 H1 e σ _ y h2 s1 (r.gr g1) e2 λy' ρ2 H2 g2 s2 r2=>?_;refine ho ρ2 h2 H2 x y x' y' _ _ _ s2 (rel.gr g2 _ _ r1) r2 e4 λz' ρ3 H3 g3 s3 r3=>?_;refine⟨z,r3,?_⟩;cases z with
 | true =>
  obtain⟨w,h5,e5,q⟩:=bind_eq.mp q
  refine hc ρ3 _ H3 e σ _ w h5 s3 (r.gr ((g1.trans g2).trans g3)) e5 λw' ρ4 H4 g4 s4 r4=>?_
  exact ho' ρ4 h5 H4 y w y' w' Q v h' s4 (rel.gr (g3.trans g4) _ _ r2) r4 q (P.gr (((g1.trans g2).trans g3).trans g4))
 | false=>cases q;exact P _ ρ3 H3 ((g1.trans g2).trans g3) s3 (by rw[rel])
theorem vo(ho:bO X pg k-> ∃ r,bT X (Ol op) r/\iy X.K r f)(ho':bO X pg k-> ∃ r,bT X (Ol op') r/\iy X.K r g)(ha:JE X pg k a ma)(hb:JE X pg k b mb)(hc:JE X pg k c mc)
  (hm:S2 [op,op'] [b,c]=false:=by with_unfolding_all rfl):JE X pg k (.Compare a [op,op'] [b,c] pos) (iK f g ma mb mc):=⟨λA =>
 let ⟨_,q1,s1⟩:=ha.h A;let ⟨_,q2,s2⟩:=hb.h A;let ⟨_,q3,s3⟩:=hc.h A;let ⟨_,q,s⟩:=ho A;let ⟨_,q',s'⟩:=ho' A;⟨_,uN q q' q1 q2 q3 hm,oZ s s' s1 s2 s3⟩⟩
theorem uX{op op':CmpOp}{f g:PV->PV->PH->RV PV}(ho:bO X pg k-> ∃ r,bT X (Ol op) r/\iy X.K r f)(ho':bO X pg k-> ∃ r,bT X (Ol op') r/\iy X.K r g)(ha:JE X pg k a ma)(hb:JE X pg k b mb)(hc:JE X pg k c mc)
  (hm:S2 [op,op'] [b,c]=false:=by with_unfolding_all rfl):JT X pg k (.Compare a [op,op'] [b,c] pos) (aV (iK f g ma mb mc)):=⟨λA =>
 let ⟨_,q1,s1⟩:=ha.h A;let ⟨_,q2,s2⟩:=hb.h A;let ⟨_,q3,s3⟩:=hc.h A;let ⟨_,q,s⟩:=ho A;let ⟨_,q',s'⟩:=ho' A;⟨_,xh q q' q1 q2 q3 hm,jQ (oZ s s' s1 s2 s3)⟩⟩
end
noncomputable def ee:MS:=λ_ e h=> .ok (.nx e) h
def aj(a b:MS):MS:=λc e h=>(a c e h).bind λf h1=>match f with
 | .nx e1=>b c e1 h1
 | f=> .ok f h1
def cK(a:ME):MS:=λc e h=>(a c e h).bind λ_ h1=> .ok (.nx e) h1
def aZ(a:ME):MS:=λc e h=>(a c e h).bind λv h1=> .ok (.rt v) h1
def cZ(t:MT)(a b:MS):MS:=λc e h=>(t c e h).bind λx h1=>if x=true then a c e h1 else b c e h1
def ar(a:ME)(g:MG):MS:=λc e h=>(a c e h).bind λv h1=>(g v e h1).bind λe1 h2=> .ok (.nx e1) h2
noncomputable def gN(i:Nat):MG:=λv e h=> .ok (e.set i (NG v)) h
noncomputable def gT(n:Nat)(g:List PV->aG->PH->RV aG):MG:=λv e h=>match v.seq? with
 | some xs=>if xs.length=n then g xs e h else .no
 | none=> .no
noncomputable def f9:List PV->aG->PH->RV aG:=λvs e h=>match vs with
 | []=> .ok e h
 | _=> .no
def bW(g:MG)(r:List PV->aG->PH->RV aG):List PV->aG->PH->RV aG:=λvs e h=>match vs with
 | []=> .no
 | v::t=>(g v e h).bind λe1 h1=>r t e1 h1
def oM(f:PV->PV->PV->PH->RV Unit)(o i a:ME):MS:=λc e h=>(a c e h).bind λv h1=>(o c e h1).bind λx h2=>(i c e h2).bind λy h3=>(f x y v h3).bind λ_ h4=> .ok (.nx e) h4
def bc(it:kD)(step:PV->aG->PH->RV Fl):List PV->aG->PH->RV Fl
 | [],e,h=>if it.gK h=true then .ok (.nx e) h else .no
 | x::xs,e,h=>if it.gK h=true then(step x e h).bind (λf h1=>match f with
   | .nx e1=>bc it step xs e1 h1
   | .ct e1=>bc it step xs e1 h1
   | .bk e1=> .ok (.nx e1) h1
   | .rt v=> .ok (.rt v) h1) else .no
def eR(i:MI)(g:MG)(b:MS):MS:=λc e h=>(i c e h).bind λit h1=>bc it (λx e h=>(g x e h).bind λe1 h1=>b c e1 h1) it.items e h1
def eO(it:kD)(step:PV->PH->RV (Option PV)):List PV->List PV->PH->RV (List PV)
 | [],ys,h=>if it.gK h=true then .ok ys h else .no
 | x::xs,ys,h=>if it.gK h=true/\ys.length < NZ then(step x h).bind (λo h1=>match o with
   | some y=>eO it step xs (ys++[y]) h1
   | none=>eO it step xs ys h1) else .no
def bp k (g:MG) (t:MT) (a:ME) c (e:aG) x h:=(g x (e++NM k NI) h).bind λe2 h2=>(t c e2 h2).bind λb h3=>if b=true then(a c e2 h3).bind (λy h4=> .ok (NG y) h4) else .ok NI h3
def d5(k:Nat)(i:MI)(g:MG)(t:MT)(a:ME):ME:=λc e h=>(i c e h).bind λit h1=>(eO it (bp k g t a c e) it.items [] h1).bind λys h2=> .ok (.ref h2.length) (h2++[.lst ys])
section
variable{X:Cx}{pg:Tb}{k:Nat}{a b c d e o i:Ou}{es:List Ou}{ma mb mc md mo mi:ME}{mr:MA}{mt mt':MT}{ms ms' mu:MS}{pos p pos' apos cpos spos:Pos}{x y:Str}{st:Pn}{body rest:List Pn}{g:MG}{mI:MI}{tg iter:Ou}{gs:List PV->aG->PH->RV aG}
theorem BW{c K}:SS c K vA ee:=fun ρ h H e σ D f h' s r q P=>by cases q;exact P σ ρ H (.refl _ _) s r
theorem xv{c K}(h1:SS c K t ms)(h2:SS c K u mu):SS c K (Ft t u) (aj ms mu):=fun ρ h H e σ D f h' s r q P=>by
 obtain⟨f1,h1',e1,q⟩:=bind_eq.mp q;refine h1 ρ h H e σ _ f1 h1' s r e1 ?_;cases f1 with
 | nx e'=>exact fun σ1 ρ1 H1 g1 s1 r1=>h2 ρ1 h1' H1 e' σ1 D f h' s1 r1 q (P.gr g1)
 | rt v=>cases q;exact P
 | bk e'=>cases q;exact P
 | ct e'=>cases q;exact P
theorem yB:uG X pg k [] ee:=⟨λA=>⟨_,mM,BW⟩⟩
theorem zO(h:JS X pg k st ms):uG X pg k [st] ms:=⟨λA=>by obtain⟨_,q,s⟩:=h.h A;exact⟨_,ng q,s⟩⟩
theorem wC(h1:JS X pg k st ms)(h2:uG X pg k rest mu):uG X pg k (st::rest) (aj ms mu):=⟨λA=>by obtain⟨_,q1,s1⟩:=h1.h A;exact by obtain⟨_,q2,s2⟩:=h2.h A;exact⟨_,ke q1 q2,xv s1 s2⟩⟩
theorem zQ(ha:JE X pg k e ma)(hs:Pt e NI pos.line X.env=pure false:=by rfl):JS X pg k (.Expr e pos) (cK ma):=⟨λA=>by obtain⟨_,q1,s1⟩:=ha.h A;exact⟨_,BD q1 hs,fun ρ h H e σ D f h' s r q P=>by
 obtain⟨x,h1,e1,q⟩:=bind_eq.mp q;cases q;exact s1 ρ h H e σ _ x _ s r e1 λx' ρ1 H1 g1 z1 r1=>P σ ρ1 H1 g1 z1 (r.gr g1)⟩⟩
theorem CJ(ha:JE X pg k e ma):JS X pg k (.Return (NG e) pos) (aZ ma):=⟨λA=>by obtain⟨_,q1,s1⟩:=ha.h A;exact⟨_,wo q1,fun ρ h H e σ D f h' s r q P=>by
 obtain⟨x,h1,e1,q⟩:=bind_eq.mp q;cases q;exact s1 ρ h H e σ _ x _ s r e1 P⟩⟩
theorem IF(hc:JT X pg k c mt)(ha:uG X pg k A ms)(hb:uG X pg k B mu):JS X pg k (.If c A B pos) (cZ mt ms mu):=⟨λZ =>
 by obtain⟨_,q0,s0⟩:=hc.h Z;exact let ⟨_,q1,s1⟩:=ha.h Z;let ⟨_,q2,s2⟩:=hb.h Z;⟨_,yb q0 q1 q2,fun ρ h H e σ D f h' s r q P=>by
  obtain⟨x,h1,e1,q⟩:=bind_eq.mp q;refine s0 ρ h H e σ _ _ _ s r e1 fun ρ1 H1 g1 z1=>?_;cases x with
  | true=>exact s1 ρ1 _ H1 e σ _ _ _ z1 (r.gr g1) q (P.gr g1)
  | false=>exact s2 ρ1 _ H1 e σ _ _ _ z1 (r.gr g1) q (P.gr g1)⟩⟩
theorem sJ{K i}:SG K (cL i) (gN i):=fun ρ h H e σ Q v v' e' h' s r rv q P=>by cases q;exact P _ ρ H (.refl _ _) s (r.set i rv)
theorem AV{i}(hN:X.N.Nodup)(hi:X.N[i]?=NG x)(hx:Loc X.env.scope x)(hf:X.fn x=true\/X.env.scope.names.lookup x=NG .local:=by first | exact .inl rfl | exact .inr rfl | assumption):JG X pg k (.Name x pos) (gN i):=⟨λA=>⟨_,rB hN hi hx hf,sJ⟩⟩
structure Jd(X:Cx)(pg:Tb)(k:Nat)(e:List Ou)(m:List PV->aG->PH->RV aG):Prop where
 h:bO X pg k-> ∃ t,CI X e t/\ ∀ ρ h H e σ Q vs us e' h',bN X.K ρ h H->bM X.K ρ H e σ ->ah X.K ρ H vs us->m vs e h= .ok e' h'->dW X.K ρ H e' h' Q->t us σ H Q
theorem zg:Jd X pg k [] f9:=⟨λA=>⟨_,rR,fun ρ h H e σ Q vs us e' h' s r rv q P=>by
 cases vs with
 | nil=>cases q;exact⟨rv,P σ ρ H (.refl _ _) s r⟩
 | cons=>cases q⟩⟩
theorem vc(h1:JG X pg k e g)(h2:Jd X pg k es gs)(hs:(O5 (e::es) X.env).map (·.2)=RT e X.env::(O5 es X.env).map (·.2):=by rfl):Jd X pg k (e::es) (bW g gs):=⟨λA =>
 by obtain⟨_,q1,s1⟩:=h1.h A;exact by obtain⟨_,q2,s2⟩:=h2.h A;exact⟨_,nQ q1 q2 hs,fun ρ h H e σ Q vs us e' h' s r rv q P=>by
 cases vs with
 | nil=>cases q
 | cons v t =>
  obtain⟨w,u,rfl,r1,r2⟩:=aB.mp rv
  obtain⟨e1,h1,e2,q⟩:=bind_eq.mp q
  refine⟨w,u,rfl,?_⟩
  exact s1 ρ h H e σ _ v w e1 h1 s r r1 e2 fun σ1 ρ1 H1 g1 z1 y1=>s2 ρ1 h1 H1 e1 σ1 Q t u e' h' z1 y1 (ah.gr g1 _ _ r2) q (P.gr g1)⟩⟩
theorem Ed{j}(h:Jd X pg k es gs)(hn:(O5 es X.env).length=n:=by rfl)(hst:(O5 es X.env).findIdx? (·.1)=NI:=by rfl):JG X pg k (.Tuple es j pos) (gT n gs):=⟨λA =>
 by obtain⟨_,q1,s1⟩:=h.h A;exact⟨_,xG A.calm q1 hn hst,fun ρ h H e σ Q v v' e' h' s r rv q P=>by
 unfold gT at q
 split at q
 . rename_i xs ex;obtain⟨a,vs,rfl,z,rr⟩:=rel.seq ex rv;split at q
   . rename_i hl;exact⟨a,vs,rfl,z,by rw[<- rr.len];exact hl,s1 ρ h H e σ Q xs vs e' h' s r rr q P⟩
   . nomatch q
 . nomatch q⟩⟩
theorem DX(hN:X.N.Nodup)(hi:X.N[j]?=NG x)(hx:Loc X.env.scope x)(he:JE X pg k e ma)(hs:Pt e (NG (.Name x pos')) pos.line X.env=pure false:=by rfl)(hf:X.fn x=true\/X.env.scope.names.lookup x=NG .local:=by first | exact .inl rfl | exact .inr rfl | assumption) :
  JS X pg k (.Assign [.Name x pos'] e pos) (ar ma (gN j)):=⟨λA=>by obtain⟨_,q1,s1⟩:=he.h A;exact⟨_,qR hN hi hx q1 hs hf,fun ρ h H e σ D f h' s r q P=>by
 obtain⟨v,h1,e1,q⟩:=bind_eq.mp q;obtain⟨e2,h2,e3,q⟩:=bind_eq.mp q;cases q;cases e3;exact s1 ρ h H e σ _ v _ s r e1 λv' ρ1 H1 g1 z1 r1=>P _ ρ1 H1 g1 z1 ((r.gr g1).set j r1)⟩⟩
theorem D1(hp:bO X pg k-> ∃ t,ku X t/\ ∀ ρ h H x y v x' y' v' u h' Q,bN X.K ρ h H->rel X.K ρ H x x'->rel X.K ρ H y y'->rel X.K ρ H v v'->f x y v h= .ok u h'->hI X.K ρ H h' Q->t x' y' v' H Q)
  (ho:JE X pg k o mo) (hi:JE X pg k i mi) (hv:JE X pg k e ma) (hs:Ux [.Subscript o i pos'] e pos.line X.env=pure false:=by rfl) (hw:Uy [.Subscript o i pos'] e X.env=pure NI:=by rfl) (h1:(O5 [.Subscript o i pos'] X.env).map (·.2)=[RT (.Subscript o i pos') X.env]:=by rfl)
  (ha: ∀ v,RT (.Subscript o i pos') X.env v=(do
   let ov <- RZ [v] (Py o X.env)
   let iv <- RZ [v,ov] (Py i X.env)
   UW pos'
   RZ [v,ov,iv] (WE ov iv v)
   release [v,ov,iv] []):=by intro _;rfl):JS X pg k (.Assign [.Subscript o i pos'] e pos) (oM f mo mi ma):=⟨λA =>
 let ⟨_,q0,s0⟩:=hv.h A;let ⟨_,q1,s1⟩:=ho.h A;let ⟨_,q2,s2⟩:=hi.h A;by obtain⟨_,q3,s3⟩:=hp A;exact⟨_,CZ q0 ⟨Di q1.h q2.h q3 ha⟩ hs hw h1,fun ρ h H e σ D f' h' s r q P=>by
 obtain⟨v,h1,e1,q⟩:=bind_eq.mp q
 obtain⟨x,h2,e2,q⟩:=bind_eq.mp q
 obtain⟨y,h3,e3,q⟩:=bind_eq.mp q
 obtain⟨u,h4,e4,q⟩:=bind_eq.mp q
 cases q
 refine s0 ρ h H e σ _ v h1 s r e1 λv' ρ1 H1 g1 z1 r1=>?_
 refine s1 ρ1 h1 H1 e σ _ x h2 z1 (r.gr g1) e2 λx' ρ2 H2 g2 z2 r2=>?_
 refine s2 ρ2 h2 H2 e σ _ y h3 z2 (r.gr (g1.trans g2)) e3 λy' ρ3 H3 g3 z3 r3=>?_
 have g:=(g1.trans g2).trans g3
 exact s3 ρ3 h3 H3 x y v x' y' v' u _ _ z3 (rel.gr g3 _ _ r2) r3 (rel.gr (g2.trans g3) _ _ r1) e4 fun ρ4 H4 g4 z4=>P σ ρ4 H4 (g.trans g4) z4 (r.gr (g.trans g4))⟩⟩
theorem Fy(hi:JI X pg k tg iter mI)(hg:JG X pg k tg g)(hb:uG X pg k body ms)(hp:Vf (Of X.prog X.w) X.A X.env X.xe)(hs: ∀ x,Oq iter X.env x=pure x:=by intro _;rfl):JS X pg k (.For tg iter body [] pos) (eR mI g ms):=⟨λA =>
 by obtain⟨_,q1,s1⟩:=hi.h A;exact by obtain⟨_,q2,s2⟩:=hg.h A;exact by obtain⟨_,q3,s3⟩:=hb.h A;exact⟨_,Dj hp A.calm q1 q2 q3 hs,fun ρ h H e σ D f h' s r q P=>by
 obtain ⟨it,h1,e1,q⟩:=bind_eq.mp q
 refine s1 ρ h H e σ _ it h1 s r e1 fun ρ1 H1 J g1 z1 w1=>?_
 let step:=λx e h=>(g x e h).bind λe1 h1=>ms (run pg k) e1 h1
 refine ⟨λi m σ' H'=> ∃ ρ' h2 e',Gr ρ1 H1 ρ' H'∧bN X.K ρ' h2 H'∧bM X.K ρ' H' e' σ'∧i<=it.items.length∧m=it.items.length - i∧bc it step (it.items.drop i) e' h2= .ok f h',⟨_, ρ1,h1,e,.refl _ _,z1,r.gr g1,OU _,rfl,q⟩,?_⟩
 rintro i m σ2 H2 ⟨ρ2,h2,e2,g2,z2,r2,hi,rfl,q2⟩
 cases hx:it.items[i]? with
 | none =>
  have hl:=Q7.mp hx
  rw[PZ hl,bc] at q2
  split at q2
  . rename_i hf;cases q2;exact .inl ⟨(w1 i ρ2 _ H2 g2 z2 hf).2 (by omega),P σ2 ρ2 H2 (g1.trans g2) z2 r2⟩
  . cases q2
 | some x =>
  have hlt:=(NN.mp hx).1
  have hd:it.items.drop i=x::it.items.drop (i+1):=by
   rw[Q8 hlt,(NN.mp hx).2]
  rw[hd,bc] at q2
  split at q2
  . rename_i hf;obtain⟨go,yl⟩:=(w1 i ρ2 _ H2 g2 z2 hf).1 x hx;obtain⟨f3,h3,e3,q3⟩:=bind_eq.mp q2;obtain ⟨e4,h4,e5,q4⟩:=bind_eq.mp e3;refine .inr ⟨go,fun σ' H'=> ∃ ρ' h2 e',Gr ρ1 H1 ρ' H'∧bN X.K ρ' h2 H'∧bM X.K ρ' H' e' σ'∧bc it step (it.items.drop (i+1)) e' h2= .ok f h',?_,?_⟩
    . rintro σ' H' ⟨ρ',h2,e',a1,a2,a3,a4⟩;exact ⟨it.items.length - (i+1),by omega, ρ',h2,e',a1,a2,a3,hlt,rfl,a4⟩
    . intro v H3 hy;obtain ⟨ρ3,g3,z3,r3⟩:=yl v H3 hy;refine s2 ρ3 h2 H3 e2 σ2 _ x v e4 h4 z3 (r2.gr g3) r3 e5 fun σ4 ρ4 H4 g4 z4 r4=>?_;have gg:=(g2.trans g3).trans g4;refine s3 ρ4 h4 H4 e4 σ4 _ f3 h3 z4 r4 q4 ?_;cases f3 with
      | nx e6=>exact fun σ5 ρ5 H5 g5 z5 r5=>⟨ρ5,h3,e6,gg.trans g5,z5,r5,q3⟩
      | ct e6=>exact fun σ5 ρ5 H5 g5 z5 r5=>⟨ρ5,h3,e6,gg.trans g5,z5,r5,q3⟩
      | bk e6=>cases q3;exact dW.gr P (g1.trans gg)
      | rt v=>cases q3;exact cA.gr P (g1.trans gg)
  . simp_all⟩⟩
theorem Cw{K tg}(s1:SI cf K wi mI)(s2:SG K tg g)(s3:ST cf K tt mt)(s4:SE cf K te ma):SE cf K (G9 n wi tg tt te) (d5 n mI g mt ma):=fun ρ h H e σ Q v h' s r q P=>by
 obtain⟨it,h1,e1,q⟩:=bind_eq.mp q;obtain ⟨ys,h2,e2,q⟩:=bind_eq.mp q;cases q;refine s1 ρ h H e σ _ it h1 s r e1 fun ρ1 H1 J g1 z1 w1=>?_;refine ⟨λi m us H'=> ∃ ρ' h3 zs,Gr ρ1 H1 ρ' H'∧bN K ρ' h3 H'∧ah K ρ' H' zs us∧i<=it.items.length∧m=it.items.length - i∧eO it (bp n g mt ma cf e) (it.items.drop i) zs h3= .ok ys h2,⟨_, ρ1,h1,[],.refl _ _,z1,bq.mpr rfl,OU _,rfl,e2⟩,?_⟩;rintro i m us H2 ⟨ρ2,h3,zs,g2,z2,r2,hi,rfl,q2⟩;cases hx:it.items[i]? with
 | none =>
  have hl:=Q7.mp hx
  rw[PZ hl,eO] at q2
  split at q2
  . rename_i hf;cases q2;exact .inl ⟨(w1 i ρ2 _ H2 g2 z2 hf).2 (by omega),λp hp=>dJ z2 r2 (P.gr (g1.trans g2)) p hp⟩
  . cases q2
 | some x =>
  have hlt:=(NN.mp hx).1
  have hd:it.items.drop i=x::it.items.drop (i+1):=by
   rw[Q8 hlt,(NN.mp hx).2]
  rw[hd,eO] at q2
  split at q2
  . rename_i hf;obtain⟨go,yl⟩:=(w1 i ρ2 _ H2 g2 z2 hf.1).1 x hx;obtain⟨o,h4,e3,q3⟩:=bind_eq.mp q2;obtain⟨e4,h5,e5,q4⟩:=bind_eq.mp e3;obtain⟨b,h6,e6,q5⟩:=bind_eq.mp q4;refine .inr ⟨go,by rw[<- r2.len];exact hf.2,λv H3 hy=>?_⟩;obtain⟨ρ3,g3,z3,r3⟩:=yl v H3 hy;refine s2 ρ3 h3 H3 _ _ _ x v e4 h5 z3 (((r.gr (g1.trans (g2.trans g3)))).more n) r3 e5 fun σ4 ρ4 H4 g4 z4 r4=>?_;refine s3 ρ4 h5 H4 e4 σ4 _ b h6 z4 r4 e6 fun ρ5 H5 g5 z5=>?_;have gg:=((g2.trans g3).trans g4).trans g5;cases b with
    | false=>cases q5;exact ⟨it.items.length - (i+1),by omega, ρ5,_,zs,gg,z5,ah.gr ((g3.trans g4).trans g5) _ _ r2,hlt,rfl,q3⟩
    | true =>
     obtain ⟨y,h7,e7,q6⟩:=bind_eq.mp q5
     cases q6
     refine s4 ρ5 h6 H5 e4 σ4 _ y _ z5 (r4.gr g5) e7 λy' ρ6 H6 g6 z6 r6=>?_
     exact ⟨it.items.length - (i+1),by omega, ρ6,_,zs++[y],gg.trans g6,z6,(ah.gr (((g3.trans g4).trans g5).trans g6) _ _ r2).app (ah.one r6),hlt,rfl,q3⟩
  . simp_all
end
noncomputable def MR(c:CF)(K:NH)(m:ME):TE:=fun σ H Q=> ∃ ρ h e v h',bN K ρ h H∧bM K ρ H e σ ∧m c e h= .ok v h'∧cA K ρ H v h' Q
noncomputable def GZ(c:CF)(K:NH)(m:MT):TT:=fun σ H Q=> ∃ ρ h e b h',bN K ρ h H/\bM K ρ H e σ /\m c e h= .ok b h'/\hI K ρ H h' (Q b)
theorem Ce{K}:SE c K (MR c K m) m:=fun ρ h H e σ Q v h' s r q P=>⟨ρ,h,e,v,h',s,r,q,P⟩
theorem sF{K}:ST c K (GZ c K m) m:=fun ρ h H e σ Q v h' s r q P=>⟨ρ,h,e,v,h',s,r,q,P⟩
theorem JE.yj(j:JE X pg k e m)(A:bO X pg k):QE X e (MR (run pg k) X.K m) :=
 by obtain⟨_,q,s⟩:=j.h A;exact⟨λpins st σ H Q I=>by rintro ⟨ρ,h,e,v,h',a,b,c,d⟩;exact q.h pins st σ H Q I (s ρ h H e σ Q v h' a b c d)⟩
theorem JF.yj(j:JF X pg k e m)(A:bO X pg k):QF X e (GZ (run pg k) X.K m) :=
 by obtain⟨_,q,s⟩:=j.h A;exact⟨λpins st σ H Q I=>by rintro ⟨ρ,h,e,v,h',a,b,c,d⟩;exact q.h pins st σ H Q I (s ρ h H e σ Q v h' a b c d)⟩
structure GC(K:NH)(n:Nat)(t:TG)(m:MG):Prop where
 sg:SG K t m
 gk:GK n t
 mono:mY t
structure K6(K:NH)(n:Nat)(t:yn)(m:List PV->aG->PH->RV aG):Prop where
 sg: ∀ ρ h H e σ Q vs us e' h',bN K ρ h H->bM K ρ H e σ ->ah K ρ H vs us->m vs e h= .ok e' h'->dW K ρ H e' h' Q->t us σ H Q
 gk:HK n t
 mono: ∀ xs σ H Q Q',(∀ σ2 H2,Q σ2 H2->Q' σ2 H2)->t xs σ H Q->t xs σ H Q'
theorem zM{K}(h:n<=i):GC K n (cL i) (gN i):=⟨sJ,Ab h,qF⟩
theorem sA{K}:K6 K n uy f9:=⟨fun ρ h H e σ Q vs us e' h' s r rv q P=>by
 cases vs with
 | nil=>cases q;exact⟨rv,P σ ρ H (.refl _ _) s r⟩
 | cons=>exact(by cases q),D3,λxs σ H Q Q' f q=>⟨q.1,f _ _ q.2⟩⟩
theorem ir{K}(a:GC K n t m)(b:K6 K n ts ms):K6 K n (jc t ts) (bW m ms):=⟨fun ρ h H e σ Q vs us e' h' s r rv q P=>by
 cases vs with
 | nil=>cases q
 | cons v t =>
  obtain⟨w,u,rfl,r1,r2⟩:=aB.mp rv
  obtain⟨e1,h1,e2,q⟩:=bind_eq.mp q
  refine⟨w,u,rfl,?_⟩
  exact a.sg ρ h H e σ _ v w e1 h1 s r r1 e2 fun σ1 ρ1 H1 g1 z1 y1=>b.sg ρ1 h1 H1 e1 σ1 Q t u e' h' z1 y1 (ah.gr g1 _ _ r2) q (P.gr g1),Bx a.gk a.mono b.gk,
 λxs σ H Q Q' f=>by rintro ⟨v,r,e,q⟩;exact⟨v,r,e,a.mono _ _ _ _ _ (fun σ2 H2 z=>b.mono _ _ _ _ _ f z) q⟩⟩
theorem xc{K}(b:K6 K n ts ms):GC K n (pY K j ts) (gT j ms):=⟨fun ρ h H e σ Q v v' e' h' s r rv q P=>by
 unfold gT at q;split at q
 . rename_i xs ex;obtain⟨a,vs,rfl,z,rr⟩:=rel.seq ex rv;split at q
   . rename_i hl;exact⟨a,vs,rfl,z,by rw[<- rr.len];exact hl,b.sg ρ h H e σ Q xs vs e' h' s r rr q P⟩
   . nomatch q
 . exact(nomatch q),GH b.gk,λx σ H Q Q' f=>by rintro ⟨a,xs,e1,e2,e3,q⟩;exact⟨a,xs,e1,e2,e3,b.mono _ _ _ _ _ f q⟩⟩
section
variable{X:Cx}{pg:Tb}{k:Nat}{e tg iter:Ou}{ma:ME}{mt:MT}{g:MG}{tG:TG}{mI:MI}{scope:Q5}{ifs:List Ou}{pos spos py:Pos}{y:Str}
theorem o8 vars (hkind:scope.kind= .function) (hlc:da scope.names X.env.scope.names X.N vars=true) (hi:JI X pg k tg iter mI)
  (hb: ∀ cl C s₀ H₀ ex pn,(bO X pg k->QG (bQ X vars scope cl C s₀ H₀ ex pn) tg tG)/\JF (bQ X vars scope cl C s₀ H₀ ex pn) pg k ifs mt/\JE (bQ X vars scope cl C s₀ H₀ ex pn) pg k e ma) (hG:GC X.K X.N.length tG g)
  (hs: ∀ x,Oq iter X.env x=pure x:=by intro _;rfl):JE X pg k (.ListComp e [⟨tg,iter,ifs,0⟩] scope pos) (d5 vars.length mI g mt ma):=⟨λA =>
 by obtain⟨_,q1,s1⟩:=hi.h A;exact⟨_,xZ vars A.calm A.c8 hkind hlc q1 (λcl C s₀ H₀ ex pn=>by obtain⟨h1,h2,h3⟩:=hb cl C s₀ H₀ ex pn;exact⟨h1 A,h2.yj (A.bQ ..),h3.yj (A.bQ ..)⟩) hG.gk hs,Cw s1 hG.sg sF Ce⟩⟩
theorem nR vars i (hkind:scope.kind= .function) (hlc:da scope.names X.env.scope.names X.N vars=true) (hN:X.N.Nodup) (hiy:X.N[i]?=NG y) (hy:Loc X.env.scope y) (hi:JI X pg k tg iter mI)
  (hb: ∀ cl C s₀ H₀ ex pn,(bO X pg k->QG (bQ X vars scope cl C s₀ H₀ ex pn) tg tG)/\JF (bQ X vars scope cl C s₀ H₀ ex pn) pg k ifs mt/\JE (bQ X vars scope cl C s₀ H₀ ex pn) pg k e ma) (hG:GC X.K X.N.length tG g)
  (hsw:Pt (.ListComp e [⟨tg,iter,ifs,0⟩] scope pos) (NG (.Name y py)) spos.line X.env=pure true:=by rfl) (hs: ∀ x,Oq iter X.env x=pure x:=by intro _;rfl)
  (hf:X.fn y=true\/X.env.scope.names.lookup y=NG .local:=by first | exact .inl rfl | exact .inr rfl | assumption) :
  JS X pg k (.Assign [.Name y py] (.ListComp e [⟨tg,iter,ifs,0⟩] scope pos) spos) (ar (d5 vars.length mI g mt ma) (gN i)):=⟨λA =>
 by obtain⟨_,q1,s1⟩:=hi.h A;exact⟨_,xj vars i A.calm A.c8 hkind hlc hN hiy hy q1 (λcl C s₀ H₀ ex pn=>let ⟨h1,h2,h3⟩:=hb cl C s₀ H₀ ex pn;⟨h1 A,h2.yj (A.bQ ..),h3.yj (A.bQ ..)⟩) hG.gk hsw hs hf,fun ρ h H e σ D f h' s r q P=>by
  obtain⟨v,h1,e1,q⟩:=bind_eq.mp q;obtain⟨e2,h2,e3,q⟩:=bind_eq.mp q;cases q;cases e3;exact Cw s1 hG.sg sF Ce ρ h H e σ _ v _ s r e1 λv' ρ1 H1 g1 z1 r1=>P _ ρ1 H1 g1 z1 ((r.gr g1).set i r1)⟩⟩
end
section
variable{K:NH}{ρ ρ':List NQ}{H H':Hp}{h h':PH}
mutual
theorem rel.flat: ∀(x:PV)(v:V),x.flat=true->rel K ρ' H' x v->rel K ρ H' x v
 | .non,v,_,h=>by simpa only[rel] using h
 | .bl _,v,_,h=>by simpa only[rel] using h
 | .int _,v,_,h=>by simpa only[rel] using h
 | .str _,v,_,h=>by simpa only[rel] using h
 | .ty _,v,_,h=>by simpa only[rel] using h
 | .ref n,v,f,h=>by simp[PV.flat] at f
 | .tup xs,v,f,h=>by
  rw[rel] at h ⊢;rw[PV.flat] at f;obtain⟨a,vs,e,s,r⟩:=h;exact⟨a,vs,e,s,ah.flat xs vs f r⟩
 | .ktup xs,v,f,h=>by
  rw[rel] at h ⊢;rw[PV.flat] at f;obtain⟨a,vs,e,s,r⟩:=h;exact⟨a,vs,e,s,ah.flat xs vs f r⟩
theorem ah.flat: ∀(xs:List PV)(vs:List V),PV.bF xs=true->ah K ρ' H' xs vs->ah K ρ H' xs vs
 | [],vs,_,h=>by simpa only[ah] using h
 | x::r,vs,f,h=>by
  rw[ah] at h ⊢;rw[PV.bF,N7] at f;obtain⟨v,t,e,h1,h2⟩:=h;exact ⟨v,t,e,rel.flat x v f.1 h1,ah.flat r t f.2 h2⟩
end
mutual
theorem rel.fJ(g: ∀ (n:Nat) (a:NQ), ρ[n]?=NG a-> ρ'[n]?=NG a): ∀(x:PV)(v:V),x.fJ ρ.length=true->rel K ρ' H' x v->rel K ρ H' x v
 | .non,v,_,h=>by simpa only [rel] using h
 | .bl _,v,_,h=>by simpa only [rel] using h
 | .int _,v,_,h=>by simpa only [rel] using h
 | .str _,v,_,h=>by simpa only[rel] using h
 | .ty _,v,_,h=>by simpa only[rel] using h
 | .ref n,v,f,h=>by
  rw[rel] at h ⊢;rw[PV.fJ,decide_eq_true_eq] at f;obtain⟨a,e,h⟩:=h;have:=g n _ (OB f);rw[e] at this;exact⟨a,by rw[OB f,<- OF this],h⟩
 | .tup xs,v,f,h=>by
  rw[rel] at h ⊢;rw[PV.fJ] at f;obtain⟨a,vs,e,s,r⟩:=h;exact⟨a,vs,e,s,ah.fJ g xs vs f r⟩
 | .ktup xs,v,f,h=>by
  rw[rel] at h ⊢;rw [PV.fJ] at f;obtain ⟨a,vs,e,s,r⟩:=h;exact ⟨a,vs,e,s,ah.fJ g xs vs f r⟩
theorem ah.fJ(g: ∀ (n:Nat) (a:NQ), ρ[n]?=NG a-> ρ'[n]?=NG a): ∀(xs:List PV)(vs:List V),PV.fD ρ.length xs=true->ah K ρ' H' xs vs->ah K ρ H' xs vs
 | [],vs,_,h=>by simpa only [ah] using h
 | x::r,vs,f,h=>by
  rw [ah] at h ⊢;rw[PV.fD,N7] at f;obtain⟨v,t,e,h1,h2⟩:=h;exact⟨v,t,e,rel.fJ g x v f.1 h1,ah.fJ g r t f.2 h2⟩
end
mutual
theorem rel.low: ∀(x:PV)(v:V),rel K ρ H x v->x.fJ ρ.length=true
 | .non,v,_=>rfl
 | .bl _,v,_=>rfl
 | .int _,v,_=>rfl
 | .str _,v,_=>rfl
 | .ty _,v,_=>rfl
 | .ref n,v,h=>by
  rw[rel] at h;obtain⟨a,e,h⟩:=h;rw[PV.fJ,decide_eq_true_eq];exact(NN.mp e).1
 | .tup xs,v,h=>by
  rw[rel] at h;obtain⟨a,vs,e,s,r⟩:=h;rw[PV.fJ];exact ah.low xs vs r
 | .ktup xs,v,h=>by
  rw[rel] at h;obtain⟨a,vs,e,s,r⟩:=h;rw[PV.fJ];exact ah.low xs vs r
theorem ah.low: ∀(xs:List PV)(vs:List V),ah K ρ H xs vs->PV.fD ρ.length xs=true
 | [],vs,_=>rfl
 | x::r,vs,h=>by
  rw[ah] at h;obtain⟨v,t,e,h1,h2⟩:=h;rw[PV.fD,rel.low x v h1,ah.low r t h2];rfl
end
theorem Paired.low{κ :Type}: ∀{kvs:List (κ × PV)}{kws:List (κ × V)},Pd (λ(p: κ × PV) (q: κ × V)=>p.1=q.1/\rel K ρ H p.2 q.2) kvs kws->PV.fD ρ.length (kvs.map (·.2))=true
 | _,_,.nil=>rfl
 | _,_,.cons r t=>by rw[NR,PV.fD,rel.low _ _ r.2,Paired.low t];rfl
theorem iI.low{a:NQ}: ∀{o:PO},iI K ρ H a o->o.fJ ρ.length=true
 | .lst xs,⟨vs,_,r⟩=>ah.low _ _ r
 | .gO xs,⟨vs,_,r⟩=>ah.low _ _ r
 | .dct kvs,⟨kws,_,r⟩=>Paired.low r
 | .obj C fs,⟨dx,fws,_,r⟩=>Paired.low r
 | .exc C fs,⟨fws,_,r⟩=>Paired.low r
theorem Paired.fJ{κ :Type}(g: ∀ (n:Nat) (a:NQ), ρ[n]?=NG a-> ρ'[n]?=NG a): ∀{kvs:List (κ × PV)}{kws:List (κ × V)},PV.fD ρ.length (kvs.map (·.2))=true ->
  Pd (λ(p: κ × PV) (q: κ × V)=>p.1=q.1∧rel K ρ' H' p.2 q.2) kvs kws->Pd (λ(p: κ × PV) (q: κ × V)=>p.1=q.1∧rel K ρ H' p.2 q.2) kvs kws
 | _,_,_,.nil=> .nil
 | _,_,f,.cons r t=>by
  rw [NR,PV.fD,N7] at f;exact .cons ⟨r.1,rel.fJ g _ _ f.1 r.2⟩ (Paired.fJ g f.2 t)
theorem iI.fJ(g: ∀ (n:Nat) (a:NQ), ρ[n]?=NG a-> ρ'[n]?=NG a){a:NQ}: ∀{o:PO},o.fJ ρ.length=true->iI K ρ' H' a o->iI K ρ H' a o
 | .lst xs,f,⟨vs,e,r⟩=>⟨vs,e,ah.fJ g _ _ f r⟩
 | .gO xs,f,⟨vs,e,r⟩=>⟨vs,e,ah.fJ g _ _ f r⟩
 | .dct kvs,f,⟨kws,e,r⟩=>⟨kws,e,Paired.fJ g f r⟩
 | .obj C fs,f,⟨dx,fws,e,r⟩=>⟨dx,fws,e,Paired.fJ g f r⟩
 | .exc C fs,f,⟨fws,e,r⟩=>⟨fws,e,Paired.fJ g f r⟩
theorem bN.drop(s:bN K ρ h H)(g:Gr ρ H ρ' H')(s':bN K ρ' h' H')(ok:bE h.length h h'=true):bN K ρ (h'.take h.length) H':=by
 have old: ∀{i:Nat}{o:PO},(h'.take h.length)[i]?=NG o->i < h.length/\h'[i]?=NG o:=λ{i o} e=>by
  have hi:i < h.length:=by
   have:=(NN.mp e).1;rw[OJ] at this;omega
  rw[List.getElem?_take,if_pos hi] at e;exact⟨hi,e⟩
 refine⟨by rw[OJ,s.len,TB (jJ ok)],λi j a oi oj ei ej mi mj ri rj=>?_,λi o a e ea=>?_⟩
 . exact s'.nd i j a oi oj (old ei).2 (old ej).2 mi mj (g.pre _ _ ri) (g.pre _ _ rj)
 . have r:=s'.ob i o a (old e).2 (g.pre _ _ ea);obtain⟨o0,e0,_,z⟩:=lV ok e;refine iI.fJ g.pre ?_ r;rcases z with z | z
   . subst z;exact(s.ob i o0 a e0 ea).low
   . rw[s.len];exact z
theorem Paired.flat{κ :Type}: ∀{kvs:List (κ × PV)}{kws:List (κ × V)},PV.bF (kvs.map (·.2))=true->Pd (λ(p: κ × PV) (q: κ × V)=>p.1=q.1/\rel K ρ' H' p.2 q.2) kvs kws->Pd (λ(p: κ × PV) (q: κ × V)=>p.1=q.1/\rel K ρ H' p.2 q.2) kvs kws
 | _,_,_,.nil=> .nil
 | _,_,f,.cons r t=>by
  rw[NR,PV.bF,N7] at f;exact .cons ⟨r.1,rel.flat _ _ f.1 r.2⟩ (Paired.flat f.2 t)
theorem dB(s:bN K ρ h H)(e:settle h v h'= .ok w h2)(P:cA K ρ H w h2 Q):cA K ρ H v h' Q:=by
 unfold settle at e;split at e
 . rename_i ok;rw[N7] at ok;cases e;exact λv' ρ' H' g s' r=>P v' ρ H' ⟨λ_ _ z=>z,g.tup,g.dw⟩ (s.drop g s' ok.2) (rel.flat _ _ ok.1 r)
 . simp_all
end
theorem du{K}: ∀{args vs},ah K ρ H args vs-> ∀ n,bM K ρ H (args.map NG++NM n NI) (vs.map NG++NM n NI)
 | args,vs,r,n=>by
  have:bM K ρ H (args.map NG) (vs.map NG):=⟨by simp[r.len],λi v e=>by
   rw[OD] at e;cases q:args[i]? with
   | none=>simp_all
   | some w =>
    rw[q] at e
    cases e
    obtain⟨v',e1,e2⟩:=r.get q
    exact⟨v',by simp_all,e2⟩⟩
  exact this.more n
structure fL(P:Om)(w:OC)(K:NH)(mg:Str->Option NJ)(base:OQ)(pg:Tb)(f:String)(d:Df):Prop where
 ex: ∃(st:Pn)(N:List Str),At K mg (NP f) st/\br N d.ps (ae st)/\N.length=d.ps.length+d.nl /\
  (∀(kV doc pm:NJ)(an:Option NQ)(cdv ct:NJ)(us:List NJ),us.length=d.ps.length->Pw (OA (NP f) (NP f) (aS st) (ay st) (ae st) .none kV doc pm an cdv ct) ⟨us,[]⟩=pure (d.ps.zip us)) /\
  ∀(fa:NQ)(cdv:NJ)(A:OI)(outer:List Env)(s:NO)(H:Hp)(E:XK)(k:Nat),JB (cJ (gz P w) P w K mg base N (NP f) (ae st) fa cdv A outer s H E) pg k f E (ay st) d.body
structure Gg(P:Om)(w:OC)(K:NH)(mg:Str->Option NJ)(base:OQ)(pg:Tb)(fn c:String)(m:Str)(d:Df):Prop where
 no:pg.fns fn=NI
 ex: ∃(st:Pn)(N:List Str),(∀ q,pg.adr c=NG q-> ∃ fa fd,mP K m (NP fn) st fa fd/\Meth K q.1 m fa)/\br N d.ps (ae st)/\N.length=d.ps.length+d.nl /\
  (∀(kV doc pm:NJ)(an:Option NQ)(cdv ct:NJ)(us:List NJ),us.length=d.ps.length->Pw (OA m (NP fn) (aS st) (ay st) (ae st) .none kV doc pm an cdv ct) ⟨us,[]⟩=pure (d.ps.zip us)) /\
  ∀(fa:NQ)(cdv:NJ)(A:OI)(outer:List Env)(s:NO)(H:Hp)(E:XK)(k:Nat),JB (cJ (gz P w) P w K mg base N (NP fn) (ae st) fa cdv A outer s H E) pg k fn E (ay st) d.body
structure Top(P:Om)(w:OC)(K:NH)(mg:Str->Option NJ)(pg:Tb):Prop where
 blt: ∀ x∈dn,mg x=NI
 con: ∀ x v,pg.con x=NG v-> ∃ u v',mg x=NG u/\RelV v' u/\v7 K v'/\ ∀ ρ H,rel K ρ H v v'
 vd: ∀ x kvs,pg.vd x=NG kvs-> ∃ a kws,mg x=NG (.ref a)/\KD P w K a kws/\ ∀ ρ H,Pd (λ(p:Key × PV) (q:Key × V)=>p.1=q.1/\rel K ρ H p.2 q.2) kvs kws
 ct:Hs K mg pg
 mg: ∀ base fn c m d,pg.KA fn=NG (c,m,d)->Gg P w K mg base pg fn c m d
section
variable {P:Om} {w:OC} {K:NH} {mg:Str->Option NJ} {base:OQ} {pg:Tb}
theorem hV{k : Nat}{f : String}{d : Df}(hf : pg.df f = NG d){args : List PV}{h h' : PH}{v : PV}(q : run pg (k + 1) f args h = .ok v h') : args.length = d.ps.length ∧
    ((∃ w h2, d.body (run pg k) (args.map NG ++ NM d.nl NI) h = .ok (.rt w) h2 /\ settle h w h2 = .ok v h') ∨
     (∃ e h2, d.body (run pg k) (args.map NG ++ NM d.nl NI) h = .ok (.nx e) h2 /\ settle h .non h2 = .ok v h')) := by
  rw [run, hf] at q;simp only at q;split at q
  . rename_i hn;refine ⟨hn, ?_⟩;split at q
    . rename_i w h2 e; exact .inl ⟨w, h2, e, q⟩
    . rename_i e' h2 e; exact .inr ⟨e', h2, e, q⟩
    . nomatch q
    . split at q
      . unfold cF at q;split at q <;> nomatch q
      . nomatch q
    . nomatch q
  . nomatch q
theorem fN{k:Nat}{f:String}{d:Df}(hf:pg.df f=NG d){args:List PV}{h h':PH}{C:Nat}{us:List (Str × PV)}(q:run pg (k+1) f args h= .ex C us h'):args.length=d.ps.length/\pg.rz f=true /\
  ∃ c vs h2,d.body (run pg k) (args.map NG++NM d.nl NI) h= .ex c vs h2/\cF h c vs h2= .ex C us h':=by
 have st: ∀{v:PV}{h2:PH},settle h v h2≠ .ex C us h':=λ{v h2} z=>by unfold settle at z;split at z<;>nomatch z
 rw[run,hf] at q;simp only at q;split at q
 . rename_i hn;refine⟨hn,?_⟩;split at q
   . exact absurd q st
   . exact absurd q st
   . nomatch q
   . rename_i c vs h2 e;split at q
     . rename_i z;exact⟨z,c,vs,h2,e,q⟩
     . nomatch q
   . nomatch q
 . nomatch q
theorem nc{ρ :List NQ}{H:Hp}{h h2 h':PH}{c C:Nat}{vs us:List (Str × PV)}{E:XK}(s:bN K ρ h H)(e:cF h c vs h2= .ex C us h')(P:dj K ρ H C us h' E):dj K ρ H c vs h2 E:=by
 unfold cF at e;split at e
 . rename_i ok;rw[N7] at ok;cases e;exact λdx od fws ρ' H' g s' hd pr=>P dx od fws ρ H' ⟨λ_ _ z=>z,g.tup,g.dw⟩ (s.drop g s' ok.2) hd (Paired.flat ok.1 pr)
 . cases e;exact P
theorem tL{k:Nat}{f:String}{d:Df}(hf:pg.df f=NG d){N:List Str}(hl:N.length=d.ps.length+d.nl){t:TS}(st:SS (run pg k) K t d.body){vs:List V}{H:Hp}{Q:VK}{E:XK}(hz:pg.rz f=false)(h:ig K pg (k+1) f vs H Q E):t { nx:=λ_ H'=>Q .non H',rt:=Q} (L2.start N vs) H:=by
 rcases h with⟨ρ,h,args,v,h',sm,r,q,post⟩ | ⟨ρ,h,args,C,us,h',_,_,q,_⟩
 rotate_left
 . rw[(fN hf q).2.1] at hz;nomatch hz
 obtain⟨hn,q⟩:=hV hf q;have he:L2.start N vs=vs.map NG++NM d.nl NI:=by
  unfold L2.start;rw[hl,<- r.len,hn,S9]
 rw[he];rcases q with⟨w,h2,e,q⟩ | ⟨e',h2,e,q⟩
 . exact st ρ h H _ _ _ _ h2 sm (du r _) e (dB sm q post)
 . exact st ρ h H _ _ _ _ h2 sm (du r _) e fun σ' ρ' H' g s' _=>dB sm q post .non ρ' H' g s' (by rw[rel])
theorem qO{k:Nat}{f:String}{d:Df}(hf:pg.df f=NG d){N:List Str}(hl:N.length=d.ps.length+d.nl){t:TS}{E:XK}(st:K5 E (run pg k) K t d.body){vs:List V}{H:Hp}{Q:VK}(h:ig K pg (k+1) f vs H Q E):t { nx:=λ_ H'=>Q .non H',rt:=Q} (L2.start N vs) H:=by
 have he: ∀{ρ :List NQ}{args:List PV},ah K ρ H args vs->args.length=d.ps.length->L2.start N vs=vs.map NG++NM d.nl NI:=λ{ρ args} r hn=>by
  unfold L2.start;rw[hl,<- r.len,hn,S9]
 rcases h with⟨ρ,h,args,v,h',sm,r,q,post⟩ | ⟨ρ,h,args,C,us,h',sm,r,q,post⟩
 . obtain⟨hn,q⟩:=hV hf q;rw[he r hn];rcases q with⟨w,h2,e,q⟩ | ⟨e',h2,e,q⟩
   . exact st ρ h H _ _ _ sm (du r _) (by rw[e];exact dB sm q post)
   . exact st ρ h H _ _ _ sm (du r _) (by rw[e];exact fun σ' ρ' H' g s' _=>dB sm q post .non ρ' H' g s' (by rw[rel]))
 . obtain⟨hn,_,c,vs',h2,e,q⟩:=fN hf q;rw[he r hn];exact st ρ h H _ _ _ sm (du r _) (by rw[e];exact nc sm q post)
theorem kf{k:Nat}{f:String}{d:Df}{N:List Str}{qual:Str}{scope:Q5}{fa:NQ}{cdv:NJ}{A:OI}{outer:List Env}{s:NO}{H:Hp}{E:XK}{st:List Pn}{vs:List V}{Q:VK}(amb:bO (cJ (gz P w) P w K mg base N qual scope fa cdv A outer s H E).c8 pg k)(hr:bZ k (A.deeper (QU qual scope s.heap.objs.size fa cdv)))
  (hf:pg.df f=NG d) (hl:N.length=d.ps.length+d.nl) (b:JB (cJ (gz P w) P w K mg base N qual scope fa cdv A outer s H E) pg k f E st d.body) (h:ig K pg (k+1) f vs H Q E) :
  ∃ t,kO (cJ (gz P w) P w K mg base N qual scope fa cdv A outer s H E) st t/\t { nx:=λ_ H'=>Q .non H',rt:=Q} (L2.start N vs) H:=by
 rcases b with⟨hz,b⟩ | b
 . obtain⟨t,qt,st'⟩:=b.h amb;exact⟨t,qt.h.c8,tL hf hl st' hz h⟩
 . obtain⟨t,qt,st'⟩:=b.h ⟨amb,vU,.inr ⟨_,_,_,rfl,rfl,rfl⟩⟩;exact⟨t,qt.h,qO hf hl st' h⟩
theorem um(T:Top P w K mg pg)(G: ∀ f d,pg.fns f=NG d->fL P w K mg base pg f d): ∀ k,(∀ f d,pg.fns f=NG d->iq P w K mg base (NP f) k d.ps (ig K pg k f))/\ ∀ j,j<=k->HZ P w K mg base pg j:=by
 have len: ∀{k:Nat}{f:String}{d:Df},pg.df f=NG d-> ∀ vs H Q E,ig K pg (k+1) f vs H Q E->vs.length=d.ps.length:=λhd vs H Q E hh=>by
  rcases hh with⟨ρ,h,args,v,h',_,r,q,_⟩ | ⟨ρ,h,args,C,us,h',_,r,q,_⟩
  . rw[<- r.len];exact(hV hd q).1
  . rw[<- r.len];exact(fN hd q).1
 have no0: ∀ f vs H Q E,¬ ig K pg 0 f vs H Q E:=λf vs H Q E hh=>by
  rcases hh with⟨ρ,h,args,v,h',_,_,q,_⟩ | ⟨ρ,h,args,C,us,h',_,_,q,_⟩<;>nomatch q
 intro k
 induction k with
 | zero =>
  refine⟨λf d hf=>?_,λj hj fn c m d hm=>?_⟩
  . obtain⟨st,N,a,S,hl,hb,body⟩:=(G f d hf).ex;exact At.sU a hb (no0 f)
  . obtain⟨no,st,N,a,S,hl,hb,body⟩:=T.mg base fn c m d hm;refine⟨no,λq hq=>?_⟩;obtain⟨fa,fd,F,me⟩:=a q hq;cases Nat.le_zero.mp hj;exact⟨fa,fd,me,⟨λvs H Q E h=>absurd h (no0 fn vs H Q E),λA outer s H args us vs Q E _ _ _ _ h=>absurd h (no0 fn vs H Q E)⟩,F.binds hb⟩
 | succ k ih =>
  refine⟨λf d hf=>?_,λj hj fn c m d hm=>?_⟩
  . obtain⟨st,N,a,S,hl,hb,body⟩:=(G f d hf).ex;refine At.G6 a S hb (len (j3 hf)) ?_;intro fa cdv A outer s H vs Q E hr h;have amb:bO (cJ (gz P w) P w K mg base N (NP f) (ae st) fa cdv A outer s H E).c8 pg k:=⟨hr,rfl,λ_ _ z=>z,ih.1,T.blt,T.con,T.vd,T.ct,ih.2⟩
    exact kf amb hr (j3 hf) hl (body fa cdv A outer s H E k) h
  . rcases Nat.lt_or_eq_of_le hj with z | z
    . exact ih.2 j (Nat.le_of_lt_succ z) fn c m d hm
    . subst z;obtain⟨no,st,N,a,S,hl,hb,body⟩:=T.mg base fn c m d hm;refine⟨no,λq hq=>?_⟩;obtain⟨fa,fd,F,me⟩:=a q hq;have hd:pg.df fn=NG d:=by unfold Tb.df;rw[no,hm];rfl
      refine⟨fa,fd,me,mP.G6 F S (len hd) λcdv A outer s H vs Q E hr h=>?_,F.binds hb⟩;have amb:bO (cJ (gz P w) P w K mg base N (NP fn) (ae st) fa cdv A outer s H E).c8 pg k:=⟨hr,rfl,λ_ _ z=>z,ih.1,T.blt,T.con,T.vd,T.ct,ih.2⟩
      exact kf amb hr hd hl (body fa cdv A outer s H E k) h
end
def p2(f:Int->Int->RV PV):PV->PV->PH->RV PV:=λx y h=>match x,y with
 | .int i,.int j=>(f i j).bind λv _=> .ok v h
 | _,_=> .no
noncomputable def Bi(v:PV):RV PV:= .ok v []
section
variable{K:NH}{X:Cx}{pg:Tb}{k:Nat}
theorem EB(hf: ∀ i j v h,f i j= .ok v h->C i j/\ ∀ ρ H,rel K ρ H v (g i j)):iy K (rI C g) (p2 f):=fun ρ h H x y x' y' Q v h' s rx ry q P=>by
 unfold p2 at q;split at q
 . rename_i i j;obtain⟨w,h0,e,q⟩:=bind_eq.mp q;cases q;obtain⟨hc,hr⟩:=hf i j v h0 e;exact⟨i,j,rx,ry,hc,P _ ρ H (.refl _ _) s (hr ρ H)⟩
 . cases q
theorem sv(hf: ∀ i j v h,f i j= .ok v h-> ∀ ρ H,rel K ρ H v (g i j)):iy K (BB g) (p2 f):=fun ρ h H x y x' y' Q v h' s rx ry q P=>by
 unfold p2 at q;split at q
 . rename_i i j;obtain⟨w,h0,e,q⟩:=bind_eq.mp q;cases q;exact⟨i,j,rx,ry,P _ ρ H (.refl _ _) s (hf i j v h0 e ρ H)⟩
 . cases q
def tP:=p2 λi j=>Bi (.int (i - j))
def kM:=p2 λi j=>if 0 < j then Bi (.int (i % j)) else .no
def uV:=p2 λi j=>if 0<=j/\j<=1000000/\i.natAbs < 2 ^ 64 then Bi (.int (i ^ j.toNat)) else .no
def EK:=p2 λi j=>Bi (.bl (decide (i < j)))
def zU:=p2 λi j=>Bi (.bl (decide (i<=j)))
def KW:=p2 λi j=>Bi (.bl (decide (j < i)))
theorem HI:bO X pg k-> ∃ r,bT X (O3 .Sub) r/\iy X.K r tP:=λ_=>⟨_,DG,sv λi j v h e ρ H=>by cases e;rw[rel]⟩
theorem HP:bO X pg k-> ∃ r,bT X (O3 .Mod) r/\iy X.K r kM:=λ_=>⟨_,EG,EB λi j v h e=>by
 split at e
 . cases e;exact⟨by assumption,fun ρ H=>by rw[rel]⟩
 . cases e⟩
theorem IE:bO X pg k-> ∃ r,bT X (O3 .Pow) r/\iy X.K r uV:=λ_=>⟨_,Gq,EB λi j v h e=>by
 split at e
 . cases e;exact⟨by assumption,fun ρ H=>by rw[rel]⟩
 . cases e⟩
theorem Lu:bO X pg k-> ∃ r,bT X (Ol .Lt) r/\iy X.K r EK:=λ_=>⟨_,Ig,sv λi j v h e ρ H=>by cases e;rw[rel]⟩
theorem LL:bO X pg k-> ∃ r,bT X (Ol .LtE) r/\iy X.K r zU:=λ_=>⟨_,Iw,sv λi j v h e ρ H=>by cases e;rw[rel]⟩
theorem Ls:bO X pg k-> ∃ r,bT X (Ol .Gt) r/\iy X.K r KW:=λ_=>⟨_,Ih,sv λi j v h e ρ H=>by cases e;rw[rel]⟩
def L4(xs:List PV)(h:PH):RV PV:=kN xs.length (.ok (.ref h.length) (h++[.lst xs]))
def az:PV->PV->PH->RV PV:=λx y h=>match x,y with
 | .int i,.int j=> .ok (.int (i+j)) h
 | .str a,.str b=>kN (a.length+b.length) (.ok (.str (a++b)) h)
 | .tup xs,.tup ys=>kN (xs.length+ys.length) (.ok (.tup (xs++ys)) h)
 | .ref n,.ref m=>(match h[n]?,h[m]? with
  | some (.lst xs),NG (.lst ys)=>L4 (xs++ys) h
  | _,_=> .no)
 | _,_=> .no
theorem bN.lst{ρ h H}(s:bN K ρ h H){n xs}(e:h[n]?=NG (.lst xs)){v}(r:rel K ρ H (.ref n) v): ∃ a vs,v= .ref a/\ ρ[n]?=NG a/\H a=NG (.lst vs)/\ah K ρ H xs vs:=by
 obtain⟨a,ea,rfl⟩:=r;obtain⟨vs,e1,e2⟩:=s.ob n _ a e ea;exact⟨a,vs,rfl,ea,e1,e2⟩
theorem bN.gO(s:bN K ρ h H)(e:h[n]?=NG (.gO xs))(r:rel K ρ H (.ref n) v): ∃ a vs,v= .ref a/\ ρ[n]?=NG a/\d9 K H a vs/\ah K ρ H xs vs:=by
 obtain⟨a,ea,rfl⟩:=r;obtain⟨vs,e1,e2⟩:=s.ob n _ a e ea;exact⟨a,vs,rfl,ea,e1.sq,e2⟩
noncomputable def bK(h:PH)(n:Nat):Option (List PV):=match h[n]? with
 | some (.lst xs)=>NG xs
 | some (.gO xs)=>NG xs
 | _=>NI
theorem bN.sq(s:bN K ρ h H)(e:bK h n=NG xs)(r:rel K ρ H (.ref n) v): ∃ a vs,v= .ref a/\ ρ[n]?=NG a/\d9 K H a vs/\ah K ρ H xs vs:=by
 unfold bK at e;split at e
 . cases e;obtain⟨a,vs,e1,e2,e3,e4⟩:=s.lst (by assumption) r;exact⟨a,vs,e1,e2,.of e3,e4⟩
 . cases e;exact s.gO (by assumption) r
 . cases e
theorem jw(s:bN K ρ h H)(r:ah K ρ H xs us)(P:cA K ρ H (.tup xs) h Q) p (hp:H p=NI):Q (.ref p) (upd H p (.tup us)):=by
 refine P _ ρ _ (Gr.ju hp) (s.tup hp) ?_;exact⟨p,us,rfl,aT,ah.gr (Gr.ju hp) _ _ r⟩
theorem Hk:bO X pg k-> ∃ r,bT X (O3 .Add) r/\iy X.K r az:=λ_=>⟨_,Ex,fun ρ h H x y x' y' Q v h' s rx ry q P=>by
 unfold az at q;split at q
 . cases q;exact .inl ⟨_,_,rx,ry,P _ ρ H (.refl _ _) s (by rw[rel])⟩
 . obtain⟨hl,q⟩:=eg.mp q;cases q;exact .inr (.inr (.inr (.inr ⟨_,_,rx,ry,hl,P _ ρ H (.refl _ _) s (by rw[rel])⟩)))
 . rename_i xs ys;obtain⟨hl,q⟩:=eg.mp q;cases q;have ry':=ry;obtain⟨a,us,e1,e2,e3⟩:=rx;obtain⟨b,ws,d1,d2,d3⟩:=ry;cases xs with
   | nil =>
    subst e3
    exact .inr (.inr (.inr (.inl ⟨a,b,ws,e1,d1,.of e2,.of d2,d1 ▸ P y' ρ H (.refl _ _) s ry'⟩)))
   | cons x r =>
    refine .inr (.inr (.inl ⟨a,b,us,ws,e1,d1,.of e2,.of d2,?_,by rw[<- e3.len,<- d3.len];exact hl,?_⟩))
    . rintro rfl;have:=e3.len;simp at this
    . refine⟨λz=>?_,λ_ p hp=>jw s (e3.app d3) P p hp⟩;subst z;have:=R5 d3.len;subst this;rw[Ov] at P;exact P _ ρ H (.refl _ _) s (by exact⟨a,us,rfl,e2,e3⟩)
 . split at q
   . rename_i h1 h2;obtain⟨hl,q⟩:=eg.mp q;cases q;obtain⟨a,us,rfl,_,e1,e2⟩:=s.lst h1 rx;obtain⟨b,ws,rfl,_,d1,d2⟩:=s.lst h2 ry;refine .inr (.inl ⟨a,b,us,ws,rfl,rfl,e1,d1,?_,λp hp=>dJ s (e2.app d2) P p hp⟩);rw[<- e2.len,<- d2.len];simpa using hl
   . nomatch q
 . nomatch q⟩
noncomputable def nU(kvs:List (Key × PV)) k:=(kvs.find? λkv=>decide (kv.1=k)).map (·.2)
noncomputable def zJ kvs (k:Key) (v:PV) :=
 if (kvs.any λkv=>decide (kv.1=k))=true then kvs.map (λkv=>if kv.1=k then(kv.1,v) else kv) else kvs++[(k,v)]
noncomputable def oR:PV->Option Key
 | .int i=>NG (.inl i)
 | .str x=>NG (.inr x)
 | _=>NI
theorem kc{k}(e:oR x=NG k)(r:rel K ρ H x v):v=kV k:=by
 cases x<;>simp only[oR,reduceCtorEq,RJ] at e<;>(subst e;exact r)
abbrev RK(K:NH)(ρ :List NQ)(H:Hp)(kvs:List (Key × PV))(kws:List (Key × V)):Prop:=Pd (λ(p:Key × PV) (q:Key × V)=>p.1=q.1/\rel K ρ H p.2 q.2) kvs kws
theorem RK.val: ∀{kvs kws} k,RK K ρ H kvs kws->match nU kvs k,eU kws k with
  | some x,NG v=>rel K ρ H x v
  | none,NI=>True
  | _,_=>False
 | _,_,k,.nil=>trivial
 | _,_,k,.cons (a:=p) (b:=q) r t=>by
  have ih:=RK.val k t;unfold nU eU at ih ⊢;rw[VH,VH,<- r.1];by_cases e:p.1=k
  . simp only[e,decide_true];exact r.2
  . simp only[e,decide_false];exact ih
theorem RK.some{k}(r:RK K ρ H kvs kws)(e:nU kvs k=NG x): ∃ v,eU kws k=NG v/\rel K ρ H x v:=by
 have:=RK.val k r;rw[e] at this;cases q:eU kws k with
 | none=>rw[q] at this;exact Pz this
 | some v=>rw[q] at this;exact⟨v,rfl,this⟩
theorem RK.is k (r:RK K ρ H kvs kws):(eU kws k).isSome=(nU kvs k).isSome:=by
 have:=RK.val k r;cases p:nU kvs k<;>cases q:eU kws k<;>rw[p,q] at this<;>first | rfl | exact Pz this
theorem RK.len(r:RK K ρ H kvs kws):kvs.length=kws.length:=Q9 r
theorem RK.any: ∀{kvs kws} k,RK K ρ H kvs kws->(kws.any λkv=>decide (kv.1=k))=kvs.any λkv=>decide (kv.1=k)
 | _,_,k,.nil=>rfl
 | _,_,k,.cons (a:=p) (b:=q) r t=>by rw[Qf,Qf,RK.any k t,r.1]
theorem RK.vE{k}(h:rel K ρ H x v): ∀{kvs kws},RK K ρ H kvs kws->RK K ρ H (kvs.map λkv=>if kv.1=k then(kv.1,x) else kv) (kws.map λkv=>if kv.1=k then(kv.1,v) else kv)
 | _,_,.nil=> .nil
 | _,_,.cons (a:=p) (b:=q) a t=> .cons (by
   show(if p.1=k then(p.1,x) else p).1=(if q.1=k then(q.1,v) else q).1/\rel K ρ H (if p.1=k then(p.1,x) else p).2 (if q.1=k then(q.1,v) else q).2;rw[<- a.1];split
   . exact⟨rfl,h⟩
   . exact a) (RK.vE h t)
theorem RK.snoc{k}(h:rel K ρ H x v): ∀{kvs kws},RK K ρ H kvs kws->RK K ρ H (kvs++[(k,x)]) (kws++[(k,v)])
 | _,_,.nil=> .cons ⟨rfl,h⟩ .nil
 | _,_,.cons a t=> .cons a (RK.snoc h t)
theorem RK.put{k}(r:RK K ρ H kvs kws)(h:rel K ρ H x v):RK K ρ H (zJ kvs k x) (putK kws k v):=by
 unfold zJ putK;rw[RK.any k r];split
 . exact RK.vE h r
 . exact RK.snoc h r
def fP:PV->PV->PH->RV PV:=λx y h=>match x with
 | .tup xs=>(match y with
  | .int i=>(match fE xs i with | some v=> .ok v h | none=> .no)
  | _=> .no)
 | .ktup xs=>(match y with
  | .int i=>(match fE xs i with | some v=> .ok v h | none=> .no)
  | _=> .no)
 | .str z=>(match y with
  | .int i=>kN z.length (match fE z.cps.toList i with | some c=> .ok (.str ⟨#[c]⟩) h | none=> .no)
  | _=> .no)
 | .ref n=>(match h[n]? with
  | some (.dct kvs)=>(match oR y with
   | some k=>(match nU kvs k with | some v=> .ok v h | none=> .no)
   | none=> .no)
  | some (.lst xs)=>(match y with
   | .int i=>(match fE xs i with | some v=> .ok v h | none=> .no)
   | _=> .no)
  | some (.gO xs)=>(match y with
   | .int i=>(match fE xs i with | some v=> .ok v h | none=> .no)
   | _=> .no)
  | _=> .no)
 | _=> .no
theorem ah.at(r:ah K ρ H xs vs)(e:fE xs i=NG x): ∃ v,fE vs i=NG v/\rel K ρ H x v:=by
 unfold fE at e ⊢;rw[<- r.len];cases q:nO xs.length i with
 | none=>simp_all
 | some j =>
  rw [q] at e
  exact r.get e
noncomputable def Ny:R2:=λx y H Q=> ∃ a v,x= .ref a∧iQ H a y (NG v)∧Q v H
theorem uh(hu : X.A.units + 1 < RE) : uo X Ny := by
  intro value slice pins s σ H x y v u Q I rx ry h hs;obtain ⟨a, w, rfl, g, q⟩ := h;obtain rfl : v = Oe a := rx;have hT := pQ I g;refine NL ?_;refine NL (wpAny_specialOf hT PySem.F.slot_dict_getitem.lookup ?_);have fin : Ob (Of X.prog X.w) X.A (Vy slice false (.ref a) u) (λr s₃ => Ob (Of X.prog X.w) X.A (letTemporaryGo value (.ref a) r >>= λ_ => pure r) (EP X pins σ Q) X.xe s₃) X.xe s := by
    rw [hs];exact wpAny_operating (ue hu I g ry λw' s' I' r' => NL (wpAny_letTemporaryGo (N2 ⟨w, H, I', r', q⟩)))
  first
    | exact N2 (NL fin)
    | exact NL (N2 (NL fin))
    | exact NL fin
theorem bO.hu(A:bO X pg k):X.A.units+1 < RE:=Kk A.room
theorem LF:bO X pg k-> ∃ r,uo X r/\iy X.K r fP:=λA=>⟨_,Ez.or (uh A.hu),fun ρ h H x y x' y' Q v h' s rx ry q P=>by
 cases x with
 | tup xs =>
  cases y with
  | int i =>
   simp only[fP] at q
   split at q
   . rename_i w e;cases q;obtain⟨a,vs,rfl,z,r⟩:=rel.seq (x:= .tup xs) rfl rx;obtain⟨u,e1,e2⟩:=r.at e;exact .inl (.inr (.inl ⟨a,vs,i,u,rfl,ry,z,e1,P _ ρ H (.refl _ _) s e2⟩))
   . nomatch q
  | _=>cases q
 | ktup xs =>
  cases y with
  | int i =>
   simp only[fP] at q
   split at q
   . rename_i w e;cases q;obtain⟨a,vs,rfl,z,r⟩:=rel.seq (x:= .ktup xs) rfl rx;obtain⟨u,e1,e2⟩:=r.at e;exact .inl (.inr (.inl ⟨a,vs,i,u,rfl,ry,z,e1,P _ ρ H (.refl _ _) s e2⟩))
   . nomatch q
  | _=>cases q
 | str z =>
  cases y with
  | int i =>
   obtain⟨hl,q⟩:=eg.mp q
   split at q
   . rename_i c e;cases q;exact .inl (.inr (.inr ⟨z,i,c,rx,ry,hl,e,P _ ρ H (.refl _ _) s (by rw[rel])⟩))
   . nomatch q
  | _=>cases q
 | ref n =>
  simp only[fP] at q
  split at q
  . rename_i kvs e;split at q
    . rename_i key ek;split at q
      . rename_i w ew;cases q;obtain⟨a,ea,rfl⟩:=rx;obtain⟨kws,e1,e2⟩:=s.ob n _ a e ea;obtain⟨u,e3,e4⟩:=RK.some e2 ew;have:=kc ek ry;subst this;exact .inr ⟨a,u,rfl,e3 ▸ iQ.k (k:=key) e1,P _ ρ H (.refl _ _) s e4⟩
      . nomatch q
    . nomatch q
  . rename_i xs e;cases y with
    | int i =>
     simp only at q
     split at q
     . rename_i w ew;cases q;obtain⟨a,vs,rfl,_,z,r⟩:=s.lst e rx;obtain⟨u,e1,e2⟩:=r.at ew;exact .inl (.inl ⟨a,vs,i,u,rfl,ry,.of z,e1,P _ ρ H (.refl _ _) s e2⟩)
     . nomatch q
    | _=>nomatch q
  . rename_i xs e;cases y with
    | int i =>
     simp only at q
     split at q
     . rename_i w ew;cases q;obtain⟨a,vs,rfl,_,z,r⟩:=s.gO e rx;obtain⟨u,e1,e2⟩:=r.at ew;exact .inl (.inl ⟨a,vs,i,u,rfl,ry,z,e1,P _ ρ H (.refl _ _) s e2⟩)
     . nomatch q
    | _=>nomatch q
  . nomatch q
 | _=>cases q⟩
theorem IT(hr:bO X pg k-> ∃ r,uo X r/\iy X.K r f)(ha:JE X pg k a ma)(hb:JE X pg k b mb)(hs:m5 b):JE X pg k (.Subscript a b pos) (aD f ma mb):=⟨λA =>
 let ⟨_,q1,s1⟩:=ha.h A;let ⟨_,q2,s2⟩:=hb.h A;by obtain⟨_,q,s⟩:=hr A;exact⟨_,Il q q1 q2 hs,rK s s1 s2⟩⟩
def nv:PV->PV->PV->PH->RV Unit:=λx y v h=>match x with
 | .ref n=>(match h[n]? with
  | some (.dct kvs)=>(match oR y with
   | some k=>if kvs.length < NZ then .ok () (h.set n (.dct (zJ kvs k v))) else .no
   | none=> .no)
  | some (.lst xs)=>(match y with
   | .int i=>(match nO xs.length i with | some j=> .ok () (h.set n (.lst (xs.set j v))) | none=> .no)
   | _=> .no)
  | _=> .no)
 | _=> .no
noncomputable def Jv:C3:=λo i v H Q=> ∃ a H',o= .ref a/\pZ H a i v H'/\Q H'
theorem set_dict(hu:X.A.units+1 < RE):ku X Jv:=by
 intro pins s σ H o i v ov iv u Q I ro ri rv h;obtain⟨a,H',rfl,g,q⟩:=h;obtain rfl:ov=Oe a:=ro;exact uz hu I g ri rv λs' I'=>⟨H',I',q⟩
theorem ku.or(h:ku X t)(h':ku X t'):ku X (λo i v H Q=>t o i v H Q\/t' o i v H Q):=by
 intro pins s σ H o i v ov iv u Q I ro ri rv q;rcases q with q | q
 . exact h pins s σ H o i v ov iv u Q I ro ri rv q
 . exact h' pins s σ H o i v ov iv u Q I ro ri rv q
theorem Hm:bO X pg k-> ∃ t,ku X t/\ ∀ ρ h H x y v x' y' v' u h' Q,bN X.K ρ h H->rel X.K ρ H x x'->rel X.K ρ H y y'->rel X.K ρ H v v'->nv x y v h= .ok u h'->hI X.K ρ H h' Q->t x' y' v' H Q:=λA =>
 ⟨_,ku.or set_list (set_dict A.hu),fun ρ h H x y v x' y' v' u h' Q s rx ry rv q P=>by
 cases x with
 | ref n =>
  simp only[nv] at q
  obtain⟨a,ea,rfl⟩:=rx
  split at q
  . rename_i kvs e;split at q
    . rename_i key ek;split at q
      . rename_i hl;cases q;obtain⟨kws,e1,e2⟩:=s.ob n _ a e ea;have:=kc ek ry;subst this;refine .inr ⟨a,_,rfl,pZ.k e1 (by rw[<- RK.len e2];exact hl),?_⟩;have g:Gr ρ H ρ (upd H a (.dK (putK kws key v'))):=Gr.write (.inr ⟨_,e1⟩);exact P ρ _ g (s.write e ea rfl rfl ⟨_,aT,Paired.dS g (RK.put e2 rv)⟩)
      . nomatch q
    . nomatch q
  . rename_i xs e;cases y with
    | int i =>
     simp only at q
     split at q
     . rename_i j ej;cases q;obtain⟨vs,e1,e2⟩:=s.ob n _ a e ea;have g:Gr ρ H ρ (upd H a (.lst (vs.set j v'))):=Gr.write (.inl ⟨_,e1⟩);exact .inl ⟨a,vs,i,j,rfl,ry,e1,by rw[<- e2.len];exact ej,P ρ _ g (s.write e ea rfl rfl ⟨_,aT,ah.gr g _ _ (e2.set j rv)⟩)⟩
     . nomatch q
    | _=>cases q
  . nomatch q
 | _=>cases q⟩
end
mutual
def bL(K:NH)(H:Hp):QK->V->Prop
 | .none,v=>v= .non
 | .bool b,v=>v= .bl b
 | .int i,v=>v= .int i
 | .str x,v=>v= .str x
 | .list xs,v=> ∃ a vs,v= .ref a/\d9 K H a vs/\dk K H xs vs
 | .tuple xs,v=> ∃ a vs,v= .ref a/\fk K H a vs/\dk K H xs vs
 | .dict _,_=>False
def dk(K:NH)(H:Hp):List QK->List V->Prop
 | [],vs=>vs=[]
 | x::r,vs=> ∃ v t,vs=v::t/\bL K H x v/\dk K H r t
end
mutual
theorem bL.reads{X:Cx}{pins:List (NQ × Obj)}{σ :L2.St}{H:Hp}{s:NO}(I:Inv X pins σ H s): ∀(d:QK)(v:V)(u:NJ),bL X.K H d v->RelV v u-> ∃ as,Reads s.heap u d as
 | .none,v,u,h,r=>by rw[bL] at h;subst h;cases(show u=OW from r);exact⟨_,.none⟩
 | .bool b,v,u,h,r=>by rw[bL] at h;subst h;cases(show u=Sq b from r);exact⟨_,.bool b⟩
 | .int i,v,u,h,r=>by rw[bL] at h;subst h;obtain⟨t,rfl⟩:=(show ∃ t,u=Ui i t from r);exact⟨_,.int i t⟩
 | .str x,v,u,h,r=>by rw[bL] at h;subst h;obtain⟨t,rfl⟩:=(show ∃ t,u=Uj x t from r);exact⟨_,.str x t⟩
 | .list xs,v,u,h,r=>by
  rw[bL] at h;obtain⟨a,vs,rfl,z,q⟩:=h;cases(show u=Oe a from r);obtain⟨ak,rv,⟨o,n,e,c,_,dd⟩,_⟩:=I.list z;obtain⟨as,ra⟩:=dk.reads I xs vs ak q rv;exact⟨_,.list e c dd (by simpa using ra)⟩
 | .tuple xs,v,u,h,r=>by
  rw[bL] at h;obtain⟨a,vs,rfl,z,q⟩:=h;cases(show u=Oe a from r);obtain⟨ak,rv,⟨o,e,c,n,dd⟩,_⟩:=I.tuple z;obtain⟨as,ra⟩:=dk.reads I xs vs ak q rv;exact⟨_,.tuple e c dd (by simpa using ra)⟩
 | .dict _,v,u,h,r=>by rw[bL] at h;exact h.elim
theorem dk.reads{X:Cx}{pins:List (NQ × Obj)}{σ :L2.St}{H:Hp}{s:NO}(I:Inv X pins σ H s): ∀(xs:List QK)(vs:List V)(us:List NJ),dk X.K H xs vs->Vals vs us-> ∃ as,ReadsAll s.heap us xs as
 | [],vs,us,h,r=>by rw[dk] at h;subst h;cases r;exact⟨_,.nil⟩
 | x::t,vs,us,h,r=>by
  rw[dk] at h;obtain⟨v,w,rfl,h1,h2⟩:=h;cases r with
  | cons r1 r2 =>
   obtain⟨as,a⟩:=bL.reads I x v _ h1 r1
   obtain⟨bs,b⟩:=dk.reads I t w _ h2 r2
   exact⟨_,.cons a b⟩
end
mutual
def gG(sub:Nat->Option QK):PV->Option QK
 | .non=>NG .none
 | .bl b=>NG (.bool b)
 | .int i=>NG (.int i)
 | .str x=>NG (.str x)
 | .tup xs=>(bU sub xs).map .tuple
 | .ktup xs=>(bU sub xs).map .tuple
 | .ref n=>sub n
 | .ty _=>NI
def bU(sub:Nat->Option QK):List PV->Option (List QK)
 | []=>NG []
 | x::r=>match gG sub x,bU sub r with
  | some d1,NG ds1=>NG (d1::ds1)
  | _,_=>NI
end
noncomputable def dat:Nat->PH->PV->Option QK
 | 0,_=>gG λ_=>NI
 | n+1,h=>gG λm=>match h[m]? with
  | some (.lst xs)=>(bU (λj=>dat n h (.ref j)) xs).map .list
  | some (.gO xs)=>(bU (λj=>dat n h (.ref j)) xs).map .list
  | _=>NI
mutual
theorem gG.v{K:NH}{ρ :List NQ}{H:Hp}{sub:Nat->Option QK}(hs: ∀ n d v,sub n=NG d->rel K ρ H (.ref n) v->bL K H d v): ∀(x:PV)(d:QK)(v:V),gG sub x=NG d->rel K ρ H x v->bL K H d v
 | .non,d,v,e,r=>by cases e;rw[rel] at r;rw[bL];exact r
 | .bl b,d,v,e,r=>by cases e;rw[rel] at r;rw[bL];exact r
 | .int b,d,v,e,r=>by cases e;rw[rel] at r;rw[bL];exact r
 | .str b,d,v,e,r=>by cases e;rw[rel] at r;rw[bL];exact r
 | .ty b,d,v,e,r=>by nomatch e
 | .ref n,d,v,e,r=>hs n d v e r
 | .tup xs,d,v,e,r=>by
  rw[gG] at e;cases q:bU sub xs with
  | none=>rw[q] at e;nomatch e
  | some ds =>
   rw[q] at e;cases e
   obtain⟨a,vs,e1,e2,e3⟩:=rel.seq (x:= .tup xs) rfl r
   rw[bL];exact⟨a,vs,e1,e2,bU.v hs xs ds vs q e3⟩
 | .ktup xs,d,v,e,r=>by
  rw[gG] at e;cases q:bU sub xs with
  | none=>rw[q] at e;nomatch e
  | some ds =>
   rw[q] at e;cases e
   obtain⟨a,vs,e1,e2,e3⟩:=rel.seq (x:= .ktup xs) rfl r
   rw[bL];exact⟨a,vs,e1,e2,bU.v hs xs ds vs q e3⟩
theorem bU.v{K:NH}{ρ :List NQ}{H:Hp}{sub:Nat->Option QK}(hs: ∀ n d v,sub n=NG d->rel K ρ H (.ref n) v->bL K H d v): ∀(xs:List PV)(ds:List QK)(vs:List V),bU sub xs=NG ds->ah K ρ H xs vs->dk K H ds vs
 | [],ds,vs,e,r=>by cases e;rw[ah] at r;rw[dk];exact r
 | x::t,ds,vs,e,r=>by
  rw[bU] at e;split at e
  . rename_i d ds' e1 e2;cases e;obtain⟨v,w,rfl,r1,r2⟩:=aB.mp r;rw[dk];exact⟨v,w,rfl,gG.v hs x d v e1 r1,bU.v hs t ds' w e2 r2⟩
  . nomatch e
end
theorem dat.v{K}(s:bN K ρ h H): ∀ n x d v,dat n h x=NG d->rel K ρ H x v->bL K H d v
 | 0,x,d,v,e,r=>gG.v (λ_ _ _ z _=>by cases z) x d v e r
 | n+1,x,d,v,e,r=>by
  refine gG.v (λm d' v' z rv=>?_) x d v e r;split at z
  . rename_i xs em;cases q:bU (λj=>dat n h (.ref j)) xs with
    | none=>rw[q] at z;nomatch z
    | some ds =>
     rw[q] at z;cases z
     obtain⟨a,vs,e1,_,e2,e3⟩:=s.lst em rv
     exact⟨a,vs,e1,.of e2,bU.v (λj d v z rv=>dat.v s n (.ref j) d v z rv) xs ds vs q e3⟩
  . rename_i xs em;cases q:bU (λj=>dat n h (.ref j)) xs with
    | none=>rw[q] at z;nomatch z
    | some ds =>
     rw[q] at z;cases z
     obtain⟨a,vs,e1,_,e2,e3⟩:=s.gO em rv
     exact⟨a,vs,e1,e2,bU.v (λj d v z rv=>dat.v s n (.ref j) d v z rv) xs ds vs q e3⟩
  . cases z
section
variable{K:NH}{X:Cx}{pg:Tb}{k:Nat}
noncomputable def IV(K:NH)(f:Bool->Bool):R2:=λx y H Q=> ∃ d d',bL K H d x/\bL K H d' y/\d.canLay0=true/\d'.canLay0=true/\min d.depth d'.depth<=64/\Q (.bl (f (Sy d d'))) H
theorem Ea(hr:X.A.units+64 < RE):bT X (Ol .Eq) (IV X.K id):=by
 rintro pins s σ H x y v u Q I rx ry ⟨d,d',h1,h2,c1,c2,hd,q⟩;obtain⟨as,ra⟩:=bL.reads I d x v h1 rx;obtain⟨bs,rb⟩:=bL.reads I d' y u h2 ry;exact SeqAt.compareEq_reads ra rb c1 c2 (by omega) ⟨.bl _,H,I,rfl,q⟩
theorem DZ(hr:X.A.units+64 < RE):bT X (Ol .NotEq) (IV X.K not):=by
 rintro pins s σ H x y v u Q I rx ry ⟨d,d',h1,h2,c1,c2,hd,q⟩;obtain⟨as,ra⟩:=bL.reads I d x v h1 rx;obtain⟨bs,rb⟩:=bL.reads I d' y u h2 ry;exact SeqAt.compareNe_reads ra rb c1 c2 (by omega) ⟨.bl _,H,I,rfl,q⟩
noncomputable def iV:PV->PV->Bool
 | .non,.non=>true | .non,.int _=>true | .int _,.non=>true | .non,.bl _=>true | .bl _,.non=>true | .non,.str _=>true | .str _,.non=>true
 | .int _,.int _=>true | .bl _,.bl _=>true | .str _,.str _=>true
 | .int _,.str _=>true | .str _,.int _=>true | .bl _,.str _=>true | .str _,.bl _=>true
 | _,_=>false
noncomputable def eF(h:PH):PV->Bool
 | .ref n=>(match h[n]? with
  | some (.dct _)=>true
  | _=>false)
 | _=>false
noncomputable def isStr:PV->Bool
 | .str _=>true
 | _=>false
def alike x y h :=
 if iV x y=true then NG (decide (x=y)) else match dat 6 h x,dat 6 h y with
  | some a,NG b=>if a.canLay0=true/\b.canLay0=true/\min a.depth b.depth<=64 then NG (Sy a b) else NI
  | _,_=>if eF h x=true/\isStr y=true then NG false else NI
def fZ(x y:PV)(h:PH):RV PV:=match alike x y h with
 | some b=> .ok (.bl b) h
 | none=> .no
def iz(x y:PV)(h:PH):RV PV:=match alike x y h with
 | some b=>if eF h x=true then .no else .ok (.bl (!b)) h
 | none=> .no
theorem xx{ρ : List NQ}{H : Hp}{x y : PV}{x' y' : V}(h : iV x y = true)(rx : rel K ρ H x x')(ry : rel K ρ H y y') : Ah x' y' = true /\ decide (x' = y') = decide (x = y) := by
  cases x <;> cases y <;> first
    | exact absurd (show false = true from h) N6
    | (rw [rel] at rx; rw [rel] at ry; subst rx; subst ry; exact ⟨rfl, by simp⟩)
theorem jP(s:bN K ρ h H)(rx:rel K ρ H x x')(ry:rel K ρ H y y')(e:alike x y h=NG b) :
  (Ah x' y'=true∧b=decide (x'=y'))∨(∃ d d',bL K H d x'∧bL K H d' y'∧d.canLay0=true∧d'.canLay0=true∧min d.depth d'.depth<=64∧b=Sy d d') ∨
  (eF h x=true∧b=false∧ ∃ p z,x'= .ref p∧y'= .str z∧ ∃ kvs,H p=NG (.dK kvs)):=by
 unfold alike at e;split at e
 . rename_i hs;cases e;obtain⟨z,w⟩:=xx hs rx ry;exact .inl ⟨z,w.symm⟩
 . split at e
   . rename_i a c e1 e2;split at e
     . rename_i hc;cases e;exact .inr (.inl ⟨a,c,dat.v s 6 x a x' e1 rx,dat.v s 6 y c y' e2 ry,hc.1,hc.2.1,hc.2.2,rfl⟩)
     . nomatch e
   . split at e
     . rename_i hc;cases e;refine .inr (.inr ⟨hc.1,rfl,?_⟩);obtain⟨c1,c2⟩:=hc;cases x with
       | ref n =>
        cases y with
        | str z =>
         obtain⟨a,ea,rfl⟩:=rx
         simp only[eF] at c1
         split at c1
         . rename_i kvs en;obtain⟨kws,e1,_⟩:=s.ob n _ a en ea;exact⟨a,z,rfl,ry,kws,e1⟩
         . cases c1
        | _=>cases c2
       | _=>cases c1
     . nomatch e
theorem L8:bO X pg k-> ∃ r,bT X (Ol .Eq) r/\iy X.K r fZ:=λA=>⟨_,Jm.or ((Ea A.room.units).or (za A.room.De)),fun ρ h H x y x' y' Q v h' s rx ry q P=>by
 unfold fZ at q;split at q
 . rename_i b e;cases q;have fin:=P _ ρ H (.refl _ _) s (by rw[rel]);rcases jP s rx ry e with⟨z,rfl⟩ | ⟨d,d',h1,h2,h3,h4,h5,rfl⟩ | ⟨_,rfl,p,z,e1,e2,kvs,e3⟩
   . exact .inl ⟨z,fin⟩
   . exact .inr (.inl ⟨d,d',h1,h2,h3,h4,h5,fin⟩)
   . exact .inr (.inr ⟨p,z,e1,e2,.inr (.inr ⟨kvs,e3⟩),fin⟩)
 . cases q⟩
theorem LI:bO X pg k-> ∃ r,bT X (Ol .NotEq) r/\iy X.K r iz:=λA=>⟨_,II.or (DZ A.room.units),fun ρ h H x y x' y' Q v h' s rx ry q P=>by
 unfold iz at q;split at q
 . rename_i b e;split at q
   . nomatch q
   . rename_i hd;cases q;have fin:=P _ ρ H (.refl _ _) s (by rw[rel]);rcases jP s rx ry e with⟨z,rfl⟩ | ⟨d,d',h1,h2,h3,h4,h5,rfl⟩ | ⟨z,_⟩
     . exact .inl ⟨z,fin⟩
     . exact .inr ⟨d,d',h1,h2,h3,h4,h5,fin⟩
     . exact absurd z hd
 . nomatch q⟩
noncomputable def J6(K:NH)(f:Bool->Bool):R2:=λx y H Q=> ∃ p vs xs d,y= .ref p/\(d9 K H p vs\/fk K H p vs)/\dk K H xs vs/\bL K H d x/\SQ xs=true/\d.canLay0=true/\min (Pu xs) d.depth<=60/\Q (.bl (f (xs.any λz=>Sy z d))) H
theorem GG(hr:X.A.units+64 < RE):bT X (Ol .In) (J6 X.K id):=by
 rintro pins s σ H x y v u Q I rx ry ⟨p,vs,xs,d,e,hq,h1,h2,c1,c2,hd,q⟩;subst e;obtain⟨bs,rb⟩:=bL.reads I d x v h2 rx;rcases hq with hq | hq
 . obtain⟨as,ra⟩:=bL.reads I (.list xs) (.ref p) u (by exact⟨p,vs,rfl,hq,h1⟩) ry;exact SeqAt.in_list_reads ra rb c1 c2 (by omega) ⟨.bl _,H,I,rfl,q⟩
 . obtain⟨as,ra⟩:=bL.reads I (.tuple xs) (.ref p) u (by exact⟨p,vs,rfl,hq,h1⟩) ry;exact SeqAt.in_tuple_reads ra rb c1 c2 (by omega) ⟨.bl _,H,I,rfl,q⟩
theorem ug(hr:X.A.units+64 < RE):bT X (Ol .NotIn) (J6 X.K not):=by
 rintro pins s σ H x y v u Q I rx ry ⟨p,vs,xs,d,e,hq,h1,h2,c1,c2,hd,q⟩;subst e;obtain⟨bs,rb⟩:=bL.reads I d x v h2 rx;rcases hq with hq | hq
 . obtain⟨as,ra⟩:=bL.reads I (.list xs) (.ref p) u (by exact⟨p,vs,rfl,hq,h1⟩) ry;exact SeqAt.notIn_list_reads ra rb c1 c2 (by omega) ⟨.bl _,H,I,rfl,q⟩
 . obtain⟨as,ra⟩:=bL.reads I (.tuple xs) (.ref p) u (by exact⟨p,vs,rfl,hq,h1⟩) ry;exact SeqAt.notIn_tuple_reads ra rb c1 c2 (by omega) ⟨.bl _,H,I,rfl,q⟩
noncomputable def IS(f:Bool->Bool):R2:=λx y H Q=> ∃ a o,y= .ref a/\iQ H a x o/\Q (.bl (f o.isSome)) H
theorem DU(hu:X.A.units+1 < RE):bT X (Ol .In) (IS id):=by
 rintro pins s σ H x y v u Q I rx ry ⟨a,o,e,g,q⟩;subst e;obtain rfl:u=Oe a:=ry;exact LO hu I g rx λs' I'=>⟨.bl _,H,I',rfl,q⟩
theorem sY(hu:X.A.units+1 < RE):bT X (Ol .NotIn) (IS not):=by
 rintro pins s σ H x y v u Q I rx ry ⟨a,o,e,g,q⟩;subst e;obtain rfl:u=Oe a:=ry;exact ze hu I g rx λs' I'=>⟨.bl _,H,I',rfl,q⟩
def itemsOf(h:PH):PV->Option (List PV)
 | .tup xs=>NG xs
 | .ktup xs=>NG xs
 | .ref n=>bK h n
 | _=>NI
theorem bN.items(s:bN K ρ h H)(e:itemsOf h x=NG xs)(r:rel K ρ H x v): ∃ a vs,v= .ref a/\(d9 K H a vs\/fk K H a vs)/\ah K ρ H xs vs:=by
 cases x with
 | tup ys=>cases e;obtain⟨a,vs,e1,e2,e3⟩:=rel.seq (x:= .tup xs) rfl r;exact⟨a,vs,e1,.inr e2,e3⟩
 | ktup ys=>cases e;obtain⟨a,vs,e1,e2,e3⟩:=rel.seq (x:= .ktup xs) rfl r;exact⟨a,vs,e1,.inr e2,e3⟩
 | ref n=>obtain⟨a,vs,e1,_,e2,e3⟩:=s.sq e r;exact⟨a,vs,e1,.inl e2,e3⟩
 | _=>cases e
noncomputable def fj:PV->Bool
 | .non=>true
 | .bl _=>true
 | .int _=>true
 | .str _=>true
 | _=>false
noncomputable def KY:PV->PV->Bool
 | .non,.non=>true
 | .bl a,.bl b=>a == b
 | .bl a,.int b=>(if a then 1 else 0) == b
 | .int a,.bl b=>a == (if b then 1 else 0)
 | .int a,.int b=>a == b
 | .str a,.str b=>a == b
 | _,_=>false
theorem pL(h:fj x=true)(r:rel K ρ H x v):eL v=true:=by
 cases x<;>first | (revert h;simp [fj];done) | (subst r;rfl)
theorem BH(hx : fj x = true)(hy : fj y = true)(rx : rel K ρ H x v)(ry : rel K ρ H y w) : zy v w = KY x y := by
  cases x <;> first
    | (exfalso; revert hx; simp [fj]; done)
    | (cases y <;> first
        | (exfalso; revert hy; simp[fj]; done)
        | (subst rx; subst ry; rfl))
theorem B8(hx:fj x=true)(rx:rel K ρ H x v): ∀{xs vs},xs.all fj=true->ah K ρ H xs vs->vs.all eL=true/\Jy v vs=xs.any λz=>KY z x
 | [],vs,_,r=>by subst r;exact⟨rfl,rfl⟩
 | y::t,vs,h,r=>by
  obtain⟨w,u,rfl,r1,r2⟩:=aB.mp r;simp only[N7,QD] at h;obtain⟨a,b⟩:=B8 hx rx h.2 r2;refine⟨by rw[QD,pL h.1 r1,a];rfl,?_⟩;unfold Jy at b ⊢;rw[Qf,Qf,b,BH h.1 hx r1 rx]
def isIn(x y:PV)(h:PH):Option Bool:=match itemsOf h y with
 | some xs=>if (fj x&&xs.all fj)=true then NG (xs.any λz=>KY z x) else(match dat 6 h x,bU (λj=>dat 6 h (.ref j)) xs with
  | some d,NG ds=>if SQ ds=true/\d.canLay0=true/\min (Pu ds) d.depth<=60 then NG (ds.any λz=>Sy z d) else NI
  | _,_=>NI)
 | none=>(match y with
  | .ref n=>(match h[n]? with
   | some (.dct kvs)=>(oR x).map λk=>(nU kvs k).isSome
   | _=>NI)
  | .str j=>(match x with
   | .str i=>NG (!(OR j i 0 j.length 1).isEmpty)
   | _=>NI)
  | _=>NI)
def A2(x y:PV)(h:PH):RV PV:=match isIn x y h with
 | some b=> .ok (.bl b) h
 | none=> .no
def iF(x y:PV)(h:PH):RV PV:=match isIn x y h with
 | some b=> .ok (.bl (!b)) h
 | none=> .no
theorem k8(s:bN K ρ h H)(rx:rel K ρ H x x')(ry:rel K ρ H y y')(e:isIn x y h=NG b) :
  (∃ p xs,y'= .ref p/\(d9 K H p xs\/fk K H p xs)/\eL x'=true/\xs.all eL=true/\b=Jy x' xs) \/
  (∃ p vs xs d,y'= .ref p/\(d9 K H p vs\/fk K H p vs)/\dk K H xs vs/\bL K H d x'/\SQ xs=true/\d.canLay0=true/\min (Pu xs) d.depth<=60/\b=xs.any λz=>Sy z d) \/
  (∃ a o,y'= .ref a/\iQ H a x' o/\b=o.isSome) \/
  (∃ i j,x'= .str i/\y'= .str j/\b= !(OR j i 0 j.length 1).isEmpty):=by
 unfold isIn at e;split at e
 . rename_i xs ei;obtain⟨a,vs,rfl,z,r⟩:=s.items ei ry;split at e
   . rename_i hf;cases e;rw[N7] at hf;obtain⟨f1,f2⟩:=B8 hf.1 rx hf.2 r;exact .inl ⟨a,vs,rfl,z,pL hf.1 rx,f1,f2.symm⟩
   . split at e
     . rename_i d ds e1 e2;split at e
       . rename_i hc;cases e;exact .inr (.inl ⟨a,vs,ds,d,rfl,z,bU.v (λj d v w rv=>dat.v s 6 (.ref j) d v w rv) xs ds vs e2 r,dat.v s 6 x d x' e1 rx,hc.1,hc.2.1,hc.2.2,rfl⟩)
       . nomatch e
     . nomatch e
 . split at e
   . rename_i n ei;split at e
     . rename_i kvs en;cases q:oR x with
       | none=>simp_all
       | some key =>
        rw[q] at e
        cases e
        obtain⟨a,ea,rfl⟩:=ry
        obtain⟨kws,e1,e2⟩:=s.ob n _ a en ea
        have:=kc q rx
        subst this
        exact .inr (.inr (.inl ⟨a,_,rfl,iQ.k (k:=key) e1,(RK.is key e2).symm⟩))
     . simp_all
   . split at e
     . cases e;exact .inr (.inr (.inr ⟨_,_,rx,ry,rfl⟩))
     . nomatch e
   . nomatch e
theorem Lk:bO X pg k-> ∃ r,bT X (Ol .In) r/\iy X.K r A2:=λA=>⟨_,uE.or ((GG A.room.units).or ((DU A.hu).or t6)),fun ρ h H x y x' y' Q v h' s rx ry q P=>by
 unfold A2 at q;split at q
 . rename_i b e;cases q;have fin:=P _ ρ H (.refl _ _) s (by rw[rel]);rcases k8 s rx ry e with⟨p,xs,e1,e2,e3,e4,rfl⟩ | ⟨p,vs,xs,d,e1,e2,e3,e4,e5,e6,e7,rfl⟩ | ⟨a,o,e1,e2,rfl⟩ | ⟨i,j,e1,e2,rfl⟩
   . exact .inl ⟨p,xs,e1,e2,e3,e4,fin⟩
   . exact .inr (.inl ⟨p,vs,xs,d,e1,e2,e3,e4,e5,e6,e7,fin⟩)
   . exact .inr (.inr (.inl ⟨a,o,e1,e2,fin⟩))
   . exact .inr (.inr (.inr ⟨i,j,e1,e2,fin⟩))
 . cases q⟩
theorem yC:bO X pg k-> ∃ r,bT X (Ol .NotIn) r/\iy X.K r iF:=λA=>⟨_,mO.or ((ug A.room.units).or ((sY A.hu).or nK)),fun ρ h H x y x' y' Q v h' s rx ry q P=>by
 unfold iF at q;split at q
 . rename_i b e;cases q;have fin:=P _ ρ H (.refl _ _) s (by rw[rel]);rcases k8 s rx ry e with⟨p,xs,e1,e2,e3,e4,rfl⟩ | ⟨p,vs,xs,d,e1,e2,e3,e4,e5,e6,e7,rfl⟩ | ⟨a,o,e1,e2,rfl⟩ | ⟨i,j,e1,e2,rfl⟩
   . exact .inl ⟨p,xs,e1,e2,e3,e4,fin⟩
   . exact .inr (.inl ⟨p,vs,xs,d,e1,e2,e3,e4,e5,e6,e7,fin⟩)
   . exact .inr (.inr (.inl ⟨a,o,e1,e2,fin⟩))
   . exact .inr (.inr (.inr ⟨i,j,e1,e2,fin⟩))
 . cases q⟩
noncomputable def mU(neg:Bool)(x:PV)(h:PH):RV PV:= .ok (.bl (if neg then !decide (x= .non) else decide (x= .non))) h
theorem AK(r:rel K ρ H x v):decide (v= .non)=decide (x= .non):=by
 cases x with
 | non=>subst r;rfl
 | bl=>subst r;rfl
 | int=>subst r;rfl
 | str=>subst r;rfl
 | ty=>subst r;rfl
 | tup=>obtain⟨a,_,rfl,_⟩:=r;rfl
 | ktup=>obtain⟨a,_,rfl,_⟩:=r;rfl
 | ref=>obtain⟨a,_,rfl⟩:=r;rfl
variable{a:Ou}{ma:ME}{pos pos':Pos}
theorem F4(neg:Bool)(s1:SE c K ta ma):SE c K (fun σ H Q=>ta σ H λx H1=>Q (.bl (if neg then !decide (x= .non) else decide (x= .non))) H1) (nM (mU neg) ma):=fun ρ h H e σ Q v h' s r q P=>by
 obtain⟨x,h1,e1,q⟩:=bind_eq.mp q;cases q;refine s1 ρ h H e σ _ x _ s r e1 λx' ρ1 H1 g1 z1 r1=>?_;rw[AK r1];exact P _ ρ1 H1 g1 z1 (by rw[rel])
theorem Gz(ha:JE X pg k a ma):JT X pg k (.Compare a [.Is] [.Constant .none j pos'] pos) (aV (nM (mU false) ma)):=⟨λA=>by obtain⟨_,q1,s1⟩:=ha.h A;exact⟨_,Dc q1,jQ (F4 false s1)⟩⟩
end
section
variable{K:NH}{X:Cx}{pg:Tb}{k:Nat}
abbrev MO:=CF->aG->PH->RV (Option Int)
noncomputable def aC:MO:=λ_ _ h=> .ok NI h
def au(a:ME):MO:=λc e h=>(a c e h).bind λv h1=>match v with
 | .int i=> .ok (NG i) h1
 | _=> .no
def cS(xs:List PV)(lo hi:Option Int):=(xs.drop (HT.cG xs.length 0 lo)).take (HT.cG xs.length xs.length hi - HT.cG xs.length 0 lo)
def zI(x:PV)(lo hi:Option Int)(h:PH):RV PV:=match x with
 | .tup xs=> .ok (.tup (cS xs lo hi)) h
 | .ref n=>(match bK h n with
  | some xs=> .ok (.ref h.length) (h++[.lst (cS xs lo hi)])
  | none=> .no)
 | _=> .no
def cE(a:ME)(l u:MO):ME:=λc e h=>(a c e h).bind λx h1=>(l c e h1).bind λlo h2=>(u c e h2).bind λhi h3=>zI x lo hi h3
structure JO(X:Cx)(pg:Tb)(k:Nat)(e:Option Ou)(m:MO):Prop where
 h:bO X pg k-> ∃ t,QO X e t/\ ∀ ρ h H e σ Q o h',bN X.K ρ h H->bM X.K ρ H e σ ->m (run pg k) e h= .ok o h'->hI X.K ρ H h' (Q o)->t σ H Q
theorem zh:JO X pg k NI aC:=⟨λA=>⟨_,yy,fun ρ h H e σ Q o h' s r q P=>by cases q;exact P ρ H (.refl _ _) s⟩⟩
theorem zL(ha:JE X pg k e ma):JO X pg k (NG e) (au ma):=⟨λA=>by obtain⟨_,q1,s1⟩:=ha.h A;exact⟨_,A1 q1,fun ρ h H e σ Q o h' s r q P=>by
 obtain⟨v,h1,e1,q⟩:=bind_eq.mp q;refine s1 ρ h H e σ _ v h1 s r e1 λv' ρ1 H1 g1 z1 r1=>?_;cases v with
 | int i=>cases q;exact⟨i,r1,P ρ1 H1 g1 z1⟩
 | _=>cases q⟩⟩
theorem ah.cut(r:ah K ρ H xs vs) lo hi:ah K ρ H (cS xs lo hi) (jt vs lo hi):=by
 unfold cS jt;rw[<- r.len];exact(r.drop _).take _
theorem wL{lo p2}(ha:JE X pg k e ma)(hl:JO X pg k lo ml)(hh:JO X pg k hi mu):JE X pg k (.Subscript e (.Slice lo hi NI p2) pos) (cE ma ml mu):=⟨λA =>
 by obtain⟨_,q1,s1⟩:=ha.h A;exact by obtain⟨_,q2,s2⟩:=hl.h A;exact by obtain⟨_,q3,s3⟩:=hh.h A;exact⟨_,vx Nk q1 q2 q3,fun ρ h H e σ Q v h' s r q P=>by
 obtain⟨x,h1,e1,q⟩:=bind_eq.mp q
 obtain⟨lo,h2,e2,q⟩:=bind_eq.mp q
 obtain⟨hi,h3,e3,q⟩:=bind_eq.mp q
 refine s1 ρ h H e σ _ x h1 s r e1 λx' ρ1 H1 g1 z1 r1=>?_
 refine s2 ρ1 h1 H1 e σ _ lo h2 z1 (r.gr g1) e2 fun ρ2 H2 g2 z2=>?_
 refine s3 ρ2 h2 H2 e σ _ hi h3 z2 (r.gr (g1.trans g2)) e3 fun ρ3 H3 g3 z3=>?_
 have r3:=rel.gr (K:=X.K) (g2.trans g3) _ _ r1
 have P3:=P.gr ((g1.trans g2).trans g3)
 cases x with
 | tup xs =>
  cases q
  obtain⟨a,vs,rfl,d1,d2⟩:=r3
  by_cases hw:HT.cG vs.length 0 lo=0/\HT.cG vs.length vs.length hi=vs.length
  . refine .inr (.inr ⟨a,vs,rfl,.of d1,hw,P3 _ ρ3 H3 (.refl _ _) z3 ?_⟩);have:cS xs lo hi=xs:=by
     unfold cS;rw[d2.len,hw.1,hw.2,T6,Va,<- d2.len,Vt]
    rw[this];exact⟨a,vs,rfl,d1,d2⟩
  . exact .inr (.inl ⟨a,vs,rfl,.of d1,hw,λp hp=>jw z3 (d2.cut lo hi) P3 p hp⟩)
 | ref n =>
  simp only[zI] at q
  split at q
  . rename_i xs en;cases q;obtain⟨a,vs,rfl,_,d1,d2⟩:=z3.sq en r3;exact .inl ⟨a,vs,rfl,d1,λp hp=>dJ z3 (d2.cut lo hi) P3 p hp⟩
  . cases q
 | _=>cases q⟩⟩
def bB:List PV->PH->RV PV:=λxs h=>match xs with
 | [x]=>(match itemsOf h x with
  | some ys=> .ok (.int ys.length) h
  | none=>(match x with
   | .str z=>kN z.length (.ok (.int z.length) h)
   | .ref n=>(match h[n]? with
    | some (.dct kvs)=> .ok (.int kvs.length) h
    | _=> .no)
   | _=> .no))
 | _=> .no
theorem aM(r:ah K ρ H [x] us): ∃ u,us=[u]/\rel K ρ H x u:=by
 obtain⟨v,t,rfl,r1,r2⟩:=aB.mp r;exact⟨v,by rw[r2],r1⟩
theorem wz(r:ah K ρ H [x,y] us): ∃ u w,us=[u,w]/\rel K ρ H x u/\rel K ρ H y w:=by
 obtain⟨v,t,rfl,r1,r2⟩:=aB.mp r;obtain⟨w,rfl,r3⟩:=aM r2;exact⟨v,w,rfl,r1,r3⟩
theorem Hh:bO X pg k-> ∃ r,aP X (.builtin "len") r/\uI X.K r bB:=λA=>⟨_,zR.or sO,fun ρ h H xs us Q v h' s r q P=>by
 unfold bB at q;split at q
 . obtain⟨u,rfl,r1⟩:=aM r;have r:=r1;split at q
   . rename_i ys e;cases q;obtain⟨a,vs,rfl,z,r2⟩:=s.items e r;exact .inl (.inl ⟨a,vs,rfl,z,by rw[<- r2.len];exact P _ ρ H (.refl _ _) s (by rw[rel])⟩)
   . split at q
     . obtain⟨hl,q⟩:=eg.mp q;cases q;subst r;exact .inl (.inr ⟨_,rfl,hl,P _ ρ H (.refl _ _) s (by rw[rel])⟩)
     . split at q
       . rename_i e;cases q;obtain⟨a,ea,rfl⟩:=r;obtain⟨kws,e1,e2⟩:=s.ob _ _ a e ea;exact .inr ⟨a,kws,rfl,e1,by rw[<- RK.len e2];exact P _ ρ H (.refl _ _) s (by rw[rel])⟩
       . nomatch q
     . nomatch q
 . nomatch q⟩
inductive Ty where
 | non | bool | int | str | tuple | list | dict
 deriving DecidableEq
noncomputable def Ty.n:Ty->String
 | .non=> "NoneType" | .bool=> "bool" | .int=> "int" | .str=> "str" | .tuple=> "tuple" | .list=> "list" | .dict=> "dict"
noncomputable def Ty.of:String->Option Ty
 | "bool" =>NG .bool | "int" =>NG .int | "str" =>NG .str | "tuple" =>NG .tuple | "list" =>NG .list | "dict" =>NG .dict
 | _=>NI
noncomputable def Er:List PV->PH->RV PV:=λxs h=>match xs with
 | [.int i]=> .ok (.int i) h
 | [.bl b]=> .ok (.int (if b then 1 else 0)) h
 | _=> .no
theorem Ia:bO X pg k-> ∃ r,aP X (.type "int") r/\uI X.K r Er:=λA=>⟨_,yZ,fun ρ h H xs us Q v h' s r q P=>by
 unfold Er at q;split at q
 . cases q;obtain⟨u,rfl,r1⟩:=aM r;have r:=r1;subst r;exact .inl ⟨_,rfl,P _ ρ H (.refl _ _) s (by rw[rel])⟩
 . cases q;obtain⟨u,rfl,r1⟩:=aM r;have r:=r1;subst r;exact .inr ⟨_,rfl,P _ ρ H (.refl _ _) s (by rw[rel])⟩
 . cases q⟩
def aH:List PV->PH->RV PV:=λxs h=>match xs with
 | [.tup ys]=> .ok (.tup ys) h
 | [.ref n]=>(match bK h n with
  | some ys=> .ok (.tup ys) h
  | none=> .no)
 | _=> .no
theorem rV:bO X pg k-> ∃ r,aP X (.type "tuple") r/\uI X.K r aH:=λA=>⟨_,yI,fun ρ h H xs us Q v h' s r q P=>by
 unfold aH at q;split at q
 . cases q;obtain⟨u,rfl,r1⟩:=aM r;have r:=r1;have r':=r;obtain⟨a,vs,rfl,e1,e2⟩:=r;exact⟨a,vs,rfl,.inr ⟨.of e1,P _ ρ H (.refl _ _) s r'⟩⟩
 . split at q
   . rename_i ys e;cases q;obtain⟨u,rfl,r1⟩:=aM r;have r:=r1;obtain⟨a,vs,rfl,_,e1,e2⟩:=s.sq e r;exact⟨a,vs,rfl,.inl ⟨e1,λp hp=>jw s e2 P p hp⟩⟩
   . nomatch q
 . nomatch q⟩
def eA:List PV->PH->RV PV:=λxs h=>match xs with
 | [x]=>(match itemsOf h x with
  | some ys=> .ok (.ref h.length) (h++[.lst ys])
  | none=> .no)
 | _=> .no
theorem vO:bO X pg k-> ∃ r,aP X (.type "list") r/\uI X.K r eA:=λA=>⟨_,mL,fun ρ h H xs us Q v h' s r q P=>by
 unfold eA at q;split at q
 . split at q
   . rename_i ys e;cases q;obtain⟨u,rfl,r1⟩:=aM r;have r:=r1;obtain⟨a,vs,rfl,z,r2⟩:=s.items e r;exact⟨a,vs,rfl,z,λp hp=>dJ s r2 P p hp⟩
   . nomatch q
 . nomatch q⟩
noncomputable def qM:List PV->Option (List Bool)
 | []=>NG []
 | .bl b::r=>(qM r).map (b:: ·)
 | _=>NI
theorem sk: ∀{xs bs},qM xs=NG bs->xs=bs.map PV.bl
 | [],bs,e=>by cases e;rfl
 | .bl b::r,bs,e=>by
  rw[qM] at e;cases q:qM r with
  | none=>simp_all
  | some cs=>rw[q] at e;cases e;rw[sk q];rfl
 | .non::_,_,e=>by cases e
 | .int _::_,_,e=>by cases e
 | .str _::_,_,e=>by cases e
 | .tup _::_,_,e=>by cases e
 | .ktup _::_,_,e=>by cases e
 | .ref _::_,_,e=>by cases e
 | .ty _::_,_,e=>by cases e
theorem rY: ∀{bs:List Bool}{vs},ah K ρ H (bs.map PV.bl) vs->vs=bs.map V.bl
 | [],vs,r=>bq.mp r
 | b::t,vs,r=>by
  obtain⟨v,w,rfl,r1,r2⟩:=aB.mp r;rw[r1,rY r2];rfl
def rL{α :Type}(g:List PV->Option (List α))(f:List α ->PV):List PV->PH->RV PV:=λxs h=>match xs with
 | [.ref n]=>(match bK h n with
  | some ys=>(match g ys with
   | some bs=> .ok (f bs) h
   | none=> .no)
  | none=> .no)
 | _=> .no
theorem vK(q:rL g f xs h= .ok v h'): ∃ n ys bs,xs=[.ref n]/\bK h n=NG ys/\g ys=NG bs/\v=f bs/\h'=h:=by
 unfold rL at q;split at q
 . split at q
   . split at q
     . cases q;exact⟨_,_,_,rfl,by assumption,by assumption,rfl,rfl⟩
     . nomatch q
   . nomatch q
 . nomatch q
def x8:=rL qM λbs=> .bl (bs.all id)
theorem HB:bO X pg k-> ∃ r,aP X (.builtin "all") r/\uI X.K r x8:=λA=>⟨_,yM A.calm,fun ρ h H xs us Q v h' s r q P=>by
 obtain⟨n,ys,bs,rfl,e1,e2,rfl,rfl⟩:=vK q;obtain⟨u,rfl,r1⟩:=aM r;have r:=r1;obtain⟨a,vs,rfl,_,z,r2⟩:=s.sq e1 r;rw[sk e2] at r2;exact⟨a,bs,rfl,by rw[rY r2] at z;exact z,P _ ρ H (.refl _ _) s (by rw[rel])⟩⟩
def bf:PV->PH->Bool:=λx h=>match x with
 | .ref n=>(match h[n]? with
  | some (.lst _)=>true
  | _=>false)
 | _=>false
theorem nY(s:bN K ρ h H)(r:rel K ρ H x v)(e:bf x h=true):Hx K "list" v H:=by
 cases x with
 | ref n =>
  simp only[bf] at e
  split at e
  . rename_i en;obtain⟨a,vs,rfl,_,e1,_⟩:=s.lst en r;exact .inl ⟨rfl,vs,.of e1⟩
  . cases e
 | _=>cases e
def bt:PV->List PV->PH->RV PV:=λx vs h=>match x,vs with
 | .ref n,[v]=>(match h[n]? with
  | some (.lst xs)=>if xs.length < NZ then .ok .non (h.set n (.lst (xs++[v]))) else .no
  | _=> .no)
 | _,_=> .no
theorem vB:bO X pg k-> ∃ r,yq X "list.append" r/\Ja X.K "list" r bt bf:=λA=>⟨_,tE,fun ρ h H x x' s r e=>nY s r e,fun ρ h H x x' xs us Q v h' s rx rs q P=>by
 unfold bt at q;split at q
 . split at q
   . rename_i ys en;split at q
     . rename_i hl;cases q;obtain⟨a,vs,rfl,ea,e1,e2⟩:=s.lst en rx;obtain⟨u,rfl,r⟩:=aM rs;have g:Gr ρ H ρ (upd H a (.lst (vs++[u]))):=Gr.write (.inl ⟨_,e1⟩);exact⟨a,vs,u,rfl,rfl,e1,by rw[<- e2.len];exact hl,P _ ρ _ g (s.write en ea rfl rfl ⟨_,aT,ah.gr g _ _ (e2.app (ah.one r))⟩) (by rw[rel])⟩
     . nomatch q
   . nomatch q
 . nomatch q⟩
def dM:PV->List PV->PH->RV PV:=λx vs h=>match x,vs with
 | .ref n,[.ref m]=>(match h[n]?,h[m]? with
  | some (.lst xs),NG (.lst ys)=>kN (xs.length+ys.length) (.ok .non (h.set n (.lst (xs++ys))))
  | _,_=> .no)
 | _,_=> .no
theorem v8:bO X pg k-> ∃ r,yq X "list.extend" r/\Ja X.K "list" r dM bf:=λA=>⟨_,tV,fun ρ h H x x' s r e=>nY s r e,fun ρ h H x x' xs us Q v h' s rx rs q P=>by
 unfold dM at q;split at q
 . rename_i n m;split at q
   . rename_i ys zs en em;obtain⟨hl,q⟩:=eg.mp q;cases q;obtain⟨a,vs,rfl,ea,e1,e2⟩:=s.lst en rx;obtain⟨u,rfl,r⟩:=aM rs;obtain⟨b,ws,rfl,eb,d1,d2⟩:=s.lst em r;have g:Gr ρ H ρ (upd H a (.lst (vs++ws))):=Gr.write (.inl ⟨_,e1⟩);exact⟨a,b,vs,ws,rfl,rfl,e1,d1,by rw[<- e2.len,<- d2.len];exact hl,P _ ρ _ g (s.write en ea rfl rfl ⟨_,aT,ah.gr g _ _ (e2.app d2)⟩) (by rw[rel])⟩
   . nomatch q
 . nomatch q⟩
end
section
variable{K:NH}{X:Cx}{pg:Tb}{k:Nat}{tg l:Ou}
theorem nH{σ :L2.St}(I:Inv X pins σ H s): ∀ b∈[s.heap.objs.size],jN X pins H b:=λb hb=>by
 have e:b=s.heap.objs.size:=by simpa using hb
 subst e;exact I.JD (NS _) (I.aW.fresh (NS _))
theorem xU{pins:List (NQ × Obj)}{σ :L2.St}{H:Hp}{s:NO}{R:It->Hp->Prop}{a:NQ}{xs:List V}(I:Inv X pins σ H s)(hq:d9 X.K H a xs)(q:R (L5 X.K a) H):Ob (Of X.prog X.w) X.A (Vd (.ref a)) (Hn X pins σ tg R) X.xe s:=by
 obtain⟨ak,rv,p,hz⟩:=I.list hq;exact SO p.isList ⟨s.heap.objs.size,[s.heap.objs.size],_,_,H,rfl,I.kept (t':=s.toks) (λb o e=>NT _ e),uw a _,⟨_,Oh _ rfl,rfl,rfl⟩,nH I,q⟩
theorem u5{pins:List (NQ × Obj)}{σ :L2.St}{H:Hp}{s:NO}{R:It->Hp->Prop}{a:NQ}{xs:List V}(I:Inv X pins σ H s)(hq:fk X.K H a xs)(q:R (Kx X.K a) H):Ob (Of X.prog X.w) X.A (Vd (.ref a)) (Hn X pins σ tg R) X.xe s:=by
 obtain⟨ak,rv,p,hz⟩:=I.tuple hq;exact wpAny_pyIter_tuple (show s.heap.IsTuple a ak.toArray from p) ⟨s.heap.objs.size,[s.heap.objs.size],_,_,H,rfl,I.kept (t':=s.toks) (λb o e=>NT _ e),p8 a _,⟨_,Oh _ rfl,rfl,rfl⟩,nH I,q⟩
theorem wV{pins:List (NQ × Obj)}{σ :L2.St}{H:Hp}{s:NO}{R:It->Hp->Prop}{z:Str}{t:Tok}(I:Inv X pins σ H s)(q:R (Ks z) H):Ob (Of X.prog X.w) X.A (Vd (.str z t)) (Hn X pins σ tg R) X.xe s:=by
 cases ha:z.cps.all (· < 128)
 . exact wpAny_pyIter_wide ha ⟨s.heap.objs.size,[s.heap.objs.size],_,_,H,rfl,I.kept (t':=s.toks) (λb o e=>NT _ e),pC z t _ (by decide) (λA' hA=>Walks.strWide hA _ z t) (λ_ _ _ _ _ st h=>wpAny_pyIter_striter_wide st h),⟨_,Oh _ rfl,rfl,rfl⟩,nH I,q⟩
 . exact wpAny_pyIter_ascii ha ⟨s.heap.objs.size,[s.heap.objs.size],_,_,H,rfl,I.kept (t':=s.toks) (λb o e=>NT _ e),pC z t _ (by decide) (λA' hA=>Walks.strAscii hA _ z t) (λ_ _ _ _ _ st h=>wpAny_pyIter_striter_ascii st h),⟨_,Oh _ rfl,rfl,rfl⟩,nH I,q⟩
def IA(K:NH)(tl:TE):TI:=fun σ H R=>tl σ H λx H1=>(∃ a xs,x= .ref a/\d9 K H1 a xs/\R (L5 K a) H1)\/(∃ a xs,x= .ref a/\fk K H1 a xs/\R (Kx K a) H1)\/ ∃ z,x= .str z/\R (Ks z) H1
theorem xi(hl:PE X l tl):PI X tg l (IA X.K tl):=by
 intro pins s σ H R I h;refine jm (hl pins s σ H _ I h) λv s1 x H1 I1 r1 q1=>?_;rcases q1 with⟨a,xs,rfl,hq,q⟩ | ⟨a,xs,rfl,hq,q⟩ | ⟨z,rfl,q⟩
 . cases r1;exact xU I1 hq q
 . cases r1;exact u5 I1 hq q
 . obtain⟨t,rfl⟩:=r1;exact wV I1 q
def jW(x:PV)(h:PH):RV kD:=match x with
 | .tup xs=> .ok ⟨NI,xs⟩ h
 | .ktup xs=> .ok ⟨NI,xs⟩ h
 | .str z=> .ok ⟨NI,z.cps.toList.map λc=> .str ⟨#[c]⟩⟩ h
 | .ref n=>(match bK h n with
  | some xs=> .ok ⟨NG n,xs⟩ h
  | none=> .no)
 | _=> .no
def gE(a:ME):MI:=λc e h=>(a c e h).bind jW
end
section
variable{X:Cx}{pg:Tb}{k:Nat}{tg l:Ou}{ma:ME}{ta:TE}
theorem vN{K}(s1:SE c K ta ma):SI c K (IA K ta) (gE ma):=fun ρ h H e σ R it h' s r q P=>by
 obtain⟨x,h1,e1,q⟩:=bind_eq.mp q;refine s1 ρ h H e σ _ x h1 s r e1 λx' ρ1 H1 g1 z1 r1=>?_;have tupc: ∀(xs:List PV),x.seq?=NG xs->it=⟨NI,xs⟩->h'=h1->(∃ a xs,x'= .ref a/\fk K H1 a xs/\R (Kx K a) H1):=λxs ex ei eh=>by
  subst ei eh;obtain⟨a,vs,rfl,zz,rr⟩:=rel.seq ex r1;refine⟨a,vs,rfl,zz,P ρ1 H1 _ g1 z1 λi ρ2 h2 H2 g s _=>?_⟩;have z2:=g.Nr zz;have r2:=ah.gr g _ _ rr;refine⟨λy e=>?_,λe=>⟨vs,z2,by rw[e,<- rr.len];exact NS _⟩⟩;obtain⟨v,d1,d2⟩:=r2.get e;refine⟨⟨vs,v,z2,d1⟩,?_⟩;rintro w H' ⟨rfl,hw⟩;have:=hw vs z2;rw[d1] at this;cases this;exact⟨ρ2,.refl _ _,s,d2⟩
 cases x with
 | tup xs=>cases q;exact .inr (.inl (tupc xs rfl rfl rfl))
 | ktup xs=>cases q;exact .inr (.inl (tupc xs rfl rfl rfl))
 | str z =>
  cases q
  refine .inr (.inr ⟨z,r1,P ρ1 H1 _ g1 z1 λi ρ2 h2 H2 g s _=>⟨λy e=>?_,λe=>by show i=z.cps.size;simpa using e⟩⟩)
  rw[OD] at e
  cases q:z.cps.toList[i]? with
  | none=>simp_all
  | some c =>
   rw[q] at e
   cases e
   have hc:z.cps[i]?=NG c:=by simpa using q
   refine⟨(OS.mp hc).1,?_⟩
   rintro v H' ⟨rfl,c',e1,rfl⟩
   rw[hc] at e1
   cases e1
   exact⟨ρ2,.refl _ _,s,by rw[rel]⟩
 | ref n =>
  simp only[jW] at q
  split at q
  . rename_i xs en;cases q;obtain⟨a,vs,rfl,ea,zz,rr⟩:=z1.sq en r1;refine .inl ⟨a,vs,rfl,zz,P ρ1 H1 _ g1 z1 λi ρ2 h2 H2 g s hf=>?_⟩;have ea2:=g.pre _ _ ea;have hl:bK h2 n=NG xs:=by
     have:h2[n]?=NG (.lst xs)\/h2[n]?=NG (.gO xs):=by simpa [kD.gK] using hf
     unfold bK;rcases this with q | q<;>rw[q]
    obtain⟨a',vs2,e3,e4,z2,r2⟩:=s.sq hl (show rel K ρ2 H2 (.ref n) (.ref a) by exact⟨a,ea2,rfl⟩);cases e3;refine⟨λy e=>?_,λe=>⟨vs2,z2,by rw[e,<- r2.len];exact NS _⟩⟩;obtain⟨v,d1,d2⟩:=r2.get e;refine⟨⟨vs2,v,z2,d1⟩,?_⟩;rintro w H' ⟨rfl,hw⟩;have:=hw vs2 z2;rw[d1] at this;cases this;exact⟨ρ2,.refl _ _,s,d2⟩
  . cases q
 | _=>cases q
theorem Ew(ha:JE X pg k l ma):JI X pg k tg l (gE ma):=⟨λA=>by obtain⟨_,q1,s1⟩:=ha.h A;exact⟨_,⟨xi q1.h⟩,vN s1⟩⟩
def aw lo n:=(Oa n).map λ(i:Nat)=>PV.int (lo+(i))
def bG(r:MA):MI:=λc e h=>(r c e h).bind λvs h1=>match vs with
 | [.int j]=>if -(2 ^ 62)<=j/\j < 2 ^ 62 then .ok ⟨NI,aw 0 j.toNat⟩ h1 else .no
 | _=> .no
def gQ(r:MA):MI:=λc e h=>(r c e h).bind λvs h1=>match vs with
 | [.int i,.int j]=>if (-(2 ^ 62)<=i/\i < 2 ^ 62)/\ -(2 ^ 62)<=j/\j < 2 ^ 62 then .ok ⟨NI,aw i (j - i).toNat⟩ h1 else .no
 | _=> .no
theorem lK{K} lo n:Lz K ρ H (uK lo n) ⟨NI,aw lo n⟩:=λi ρ1 h1 H1 g s _=>by
 refine⟨λy e=>?_,λe=>by show n<=i;rw[e];simp[aw]⟩;unfold aw at e;rw[OD] at e;rcases Qu i n with z | z
 . rw[Uv z] at e;cases e;exact⟨z,λv H'=>by rintro ⟨e1,e2⟩;exact by subst e1;subst e2;exact⟨ρ1,.refl _ _,s,by rw[rel]⟩⟩
 . simp_all
variable{a b:Ou}{p pos:Pos}{mr:MA}
theorem uA(hg:Gl X "range")(ha:JA X pg k [a] mr)(hs:Oy [a] X.env=[(false,Py a X.env)]:=by rfl):JI X pg k tg (.Call (.Name "range" p) [a] [] pos) (bG mr):=⟨λA =>
 by obtain⟨_,q1,s1⟩:=ha.h A;exact⟨_,⟨tu hg (A.blt _ (by decide)) q1.h hs⟩,fun ρ h H e σ R it h' s r q P=>by
 obtain⟨vs,h1,e1,q⟩:=bind_eq.mp q
 refine s1 ρ h H e σ _ vs h1 s r e1 λus ρ1 H1 g1 z1 r1=>?_
 split at q
 . rename_i j;split at q
   . rename_i hj;cases q;obtain⟨u,rfl,r2⟩:=aM r1;subst r2;exact⟨j,rfl,hj.1,hj.2,P ρ1 H1 _ g1 z1 (lK 0 _)⟩
   . nomatch q
 . nomatch q⟩⟩
theorem sV(hg:Gl X "range")(ha:JA X pg k [a,b] mr)(hs:Oy [a,b] X.env=[(false,Py a X.env),(false,Py b X.env)]:=by rfl)(hs2:Oy [b] X.env=[(false,Py b X.env)]:=by rfl):JI X pg k tg (.Call (.Name "range" p) [a,b] [] pos) (gQ mr):=⟨λA =>
 let ⟨_,q1,s1⟩:=ha.h A;⟨_,⟨sZ hg (A.blt _ (by decide)) q1.h hs hs2⟩,fun ρ h H e σ R it h' s r q P=>by
 obtain⟨vs,h1,e1,q⟩:=bind_eq.mp q
 refine s1 ρ h H e σ _ vs h1 s r e1 λus ρ1 H1 g1 z1 r1=>?_
 split at q
 . rename_i i j;split at q
   . rename_i hj;cases q;obtain⟨u,w,rfl,r2,r3⟩:=wz r1;rw[rel] at r2;rw[rel] at r3;subst r2 r3;exact⟨i,j,rfl,⟨hj.1.1,hj.1.2,hj.2.1,hj.2.2⟩,P ρ1 H1 _ g1 z1 (lK i _)⟩
   . nomatch q
 . nomatch q⟩⟩
abbrev MP:=CF->aG->PH->RV (List (Key × PV))
structure JP(X:Cx)(pg:Tb)(k:Nat)(pos:Pos)(ks:List (Option Ou))(vs:List Ou)(m:MP):Prop where
 h:bO X pg k-> ∃ t,QP X pos ks vs t/\ ∀ ρ h H e σ Q kvs h',bN X.K ρ h H->bM X.K ρ H e σ ->m (run pg k) e h= .ok kvs h'->(∀ kws ρ' H',Gr ρ H ρ' H'->bN X.K ρ' h' H'->RK X.K ρ' H' kvs kws->Q (kws.map λkv=>(kV kv.1,kv.2)) H')->j1 t σ H Q
variable{x:Str}{kvs:List (Key × PV)}{i:Ou}{mi:ME}{pos':Pos}
end
section
variable{K:NH}{X:Cx}{pg:Tb}{k:Nat}
noncomputable def jT:List PV->Option (List Str)
 | []=>NG []
 | .str x::r=>(jT r).map (x:: ·)
 | _=>NI
theorem iS: ∀{ss:List Str}{vs},ah K ρ H (ss.map PV.str) vs↔vs=ss.map V.str
 | [],vs=>bq
 | b::t,vs=>by
  constructor
  . rintro ⟨v,w,rfl,r1,r2⟩;rw[r1,iS.mp r2];rfl
  . rintro rfl;exact⟨.str b,t.map V.str,rfl,by rw[rel],iS.mpr rfl⟩
theorem RK.keys: ∀{kvs kws},RK K ρ H kvs kws->kws.map (·.1)=kvs.map (·.1)
 | _,_,.nil=>rfl
 | _,_,.cons a t=>by rw[NR,NR,RK.keys t,a.1]
theorem fL.of{P:Om}{w:OC}{K:NH}{mg:Str->Option NJ}{base:OQ}{pg:Tb}{f:String}{d:Df}(b:MS)(st:Pn)(N:List Str)(e:d.body=b)(a:At K mg (NP f) st)(S:br N d.ps (ae st))(hl:N.length=d.ps.length+d.nl)
  (hb: ∀(kV doc pm:NJ)(an:Option NQ)(cdv ct:NJ)(us:List NJ),us.length=d.ps.length->Pw (OA (NP f) (NP f) (aS st) (ay st) (ae st) .none kV doc pm an cdv ct) ⟨us,[]⟩=pure (d.ps.zip us))
  (hz:pg.rz f=false) (h: ∀(fa:NQ)(cdv:NJ)(A:OI)(outer:List Env)(s:NO)(H:Hp)(E:XK)(k:Nat),uG (cJ (gz P w) P w K mg base N (NP f) (ae st) fa cdv A outer s H E).c8 pg k (ay st) b):fL P w K mg base pg f d :=
 ⟨st,N,a,S,hl,hb,by rw[e];exact λfa cdv A outer s H E k=> .inl ⟨hz,h fa cdv A outer s H E k⟩⟩
end
structure bS(P:Om)(w:OC)(K:NH)(mg:Str->Option NJ)(pg:Tb)(f:String)(d:Df)(st:Pn)(N:List Str):Prop where
 at_:At K mg (NP f) st
 sc:br N d.ps (ae st)
 len:N.length=d.ps.length+d.nl
 bd: ∀(kV doc pm:NJ)(an:Option NQ)(cdv ct:NJ)(us:List NJ),us.length=d.ps.length->Pw (OA (NP f) (NP f) (aS st) (ay st) (ae st) .none kV doc pm an cdv ct) ⟨us,[]⟩=pure (d.ps.zip us)
 body: ∀(base:OQ)(fa:NQ)(cdv:NJ)(A:OI)(outer:List Env)(s:NO)(H:Hp)(E:XK)(k:Nat),JB (cJ (gz P w) P w K mg base N (NP f) (ae st) fa cdv A outer s H E) pg k f E (ay st) d.body
section
variable{P:Om}{w:OC}{K:NH}{mg:Str->Option NJ}{pg:Tb}
theorem bS.of{f:String}{d:Df}(b:MS){st:Pn}{N:List Str}(e:d.body=b)(a:At K mg (NP f) st)(S:br N d.ps (ae st))(hl:N.length=d.ps.length+d.nl)
  (hb: ∀(kV doc pm:NJ)(an:Option NQ)(cdv ct:NJ)(us:List NJ),us.length=d.ps.length->Pw (OA (NP f) (NP f) (aS st) (ay st) (ae st) .none kV doc pm an cdv ct) ⟨us,[]⟩=pure (d.ps.zip us))
  (hz:pg.rz f=false) (h: ∀(base:OQ)(fa:NQ)(cdv:NJ)(A:OI)(outer:List Env)(s:NO)(H:Hp)(E:XK)(k:Nat),uG (cJ (gz P w) P w K mg base N (NP f) (ae st) fa cdv A outer s H E).c8 pg k (ay st) b):bS P w K mg pg f d st N :=
 ⟨a,S,hl,hb,by rw[e];exact λbase fa cdv A outer s H E k=> .inl ⟨hz,h base fa cdv A outer s H E k⟩⟩
theorem bS.good{st}(g:bS P w K mg pg f d st N):fL P w K mg base pg f d:=⟨st,N,g.at_,g.sc,g.len,g.bd,g.body base⟩
theorem v3{fnT:List (String × Df)}(hf:pg.fns=λf=>(fnT.find? λp=>p.1 == f).map (·.2))(h: ∀ p∈fnT,∃ st N,bS P w K mg pg p.1 p.2 st N) base: ∀ f d,pg.fns f=NG d->fL P w K mg base pg f d:=λf d e=>by
 rw[hf] at e;dsimp only at e;cases q:fnT.find? λp=>p.1 == f with
 | none=>simp_all
 | some p =>
  rw[q] at e
  cases e
  obtain⟨st,N,g⟩:=h p (Pc q)
  have:p.1=f:=by simpa using TH q
  rw[<- this]
  exact g.good
theorem DP{k:Nat}{d:Df}{st:Pn}{N:List Str}{fa:NQ}{x:Str}(T:Top P w K mg pg)(G: ∀ base f d,pg.fns f=NG d->fL P w K mg base pg f d)(hf:pg.fns "law" =NG d)(hx:d.ps=[x])(g:bS P w K mg pg "law" d st N)(hfa:mg "law" =NG (.ref fa)) :
  ∃ fd:P5,(∀(s:NO)(v:NJ),SJ s fd ⟨[v],[]⟩ [(x,v)])/\ ∀ base:OQ,K.In base->base.Ns Ox mg->fV P w K mg base (gz P w) (k+1) fa fd [x] (ig K pg (k+1) "law"):=by
 obtain⟨f,fd,F,hm⟩:=g.at_;have e:=hfa.symm.trans hm;cases e;refine⟨fd,λs v=> .of_eq ?_,λbase _ _=>?_⟩
 . have:=mP.args F g.bd [v] (by rw[hx];rfl);rw[this,hx];rfl
 . have S:=g.sc;rw[hx] at S;refine mP.G6 F S (λvs H Q E hh=>by
    rcases hh with⟨ρ,h,args,v,h',_,r,q,_⟩ | ⟨ρ,h,args,C,us,h',_,r,q,_⟩
    . rw[<- r.len,(hV (j3 hf) q).1,hx]
    . rw[<- r.len,(fN (j3 hf) q).1,hx]) ?_
   intro cdv A outer s H vs Q E hr h;have tbl:=um T (G base) k;have amb:bO (cJ (gz P w) P w K mg base N (NP "law") (ae st) fa cdv A outer s H E).c8 pg k:=⟨hr,rfl,λ_ _ z=>z,tbl.1,T.blt,T.con,T.vd,T.ct,tbl.2⟩
   exact kf amb hr (j3 hf) g.len (g.body base fa cdv A outer s H E k) h
end
theorem GO{K:NH}{pg:Tb}{k:Nat}{E:XK}(hl: ∀ ns:List Int,ns.length<=63->Ok (run pg k "law" [.ref 0] [.gO (ns.map PV.int)]) λv _=>v= .bl true)(H:Hp)(a:NQ)(ns:List Int)(hn:ns.length<=63)(o:uY H)(q:d9 K H a (ns.map V.int)) :
  ig K pg k "law" [.ref a] H (λv _=>v= .bl true) E:=by
 obtain⟨v,h',e,rfl⟩:=hl ns hn;refine .inl ⟨[a],_,[.ref 0],_,h',⟨rfl,λi j b oi oj ei ej mi mj _ _=>?_,λi ob b ei eb=>?_⟩,ah.one (by rw[rel];exact⟨a,rfl,rfl⟩),e,λv' ρ' H' g s r=>by rw[rel] at r;exact r⟩
 . cases i with
   | zero=>simp at ei;subst ei;nomatch mi
   | succ i=>simp at ei
 . cases i with
   | zero =>
    simp at ei eb
    subst ei eb
    exact⟨_,F7 o q,ah.ints ns⟩
   | succ i=>simp at ei
section
variable{P:Om}{w:OC}{K:NH}{mg:Str->Option NJ}{pg:Tb}
theorem Az{conT:List (Str × PV)}(hc:pg.con=λx=>(conT.find? λp=>decide (p.1=x)).map (·.2))(h: ∀ p∈conT,∃ u v',mg p.1=NG u/\RelV v' u/\v7 K v'/\ ∀ ρ H,rel K ρ H p.2 v'): ∀ x v,pg.con x=NG v-> ∃ u v',mg x=NG u/\RelV v' u/\v7 K v'/\ ∀ ρ H,rel K ρ H v v':=λx v e=>by
 rw[hc] at e;dsimp only at e;cases q:conT.find? λp=>decide (p.1=x) with
 | none=>simp_all
 | some p =>
  rw[q] at e
  cases e
  have:p.1=x:=by simpa using TH q
  rw[<- this]
  exact h p (Pc q)
theorem yA{dcT:List (Str × List (Key × PV))}(hc:pg.vd=λx=>(dcT.find? λp=>decide (p.1=x)).map (·.2))(h: ∀ p∈dcT,∃ a kws,mg p.1=NG (.ref a)/\KD P w K a kws/\ ∀ ρ H,RK K ρ H p.2 kws) :
  ∀ x kvs,pg.vd x=NG kvs-> ∃ a kws,mg x=NG (.ref a)/\KD P w K a kws/\ ∀ ρ H,Pd (λ(p:Key × PV) (q:Key × V)=>p.1=q.1/\rel K ρ H p.2 q.2) kvs kws:=λx v e=>by
 rw[hc] at e;dsimp only at e;cases q:dcT.find? λp=>decide (p.1=x) with
 | none=>simp_all
 | some p =>
  rw[q] at e
  cases e
  have:p.1=x:=by simpa using TH q
  rw[<- this]
  exact h p (Pc q)
inductive CV:PV->NJ->Prop where
 | int (i:Int) (t:Tok):CV (.int i) (.int i t)
 | str (x:Str) (t:Tok):CV (.str x) (.str x t)
theorem CV.v(c:CV x u): ∃ v,RelV v u/\ ∀ ρ H,rel K ρ H x v:=by
 cases c with
 | int i t=>exact⟨.int i,⟨t,rfl⟩,λ_ _=>by rw[rel]⟩
 | str z t=>exact⟨.str z,⟨t,rfl⟩,λ_ _=>by rw[rel]⟩
theorem Nf.v: ∀{xs us},Pd CV xs us-> ∃ vs,Vals vs us/\ ∀ ρ H,ah K ρ H xs vs
 | _,_,.nil=>⟨[],.nil,λ_ _=>bq.mpr rfl⟩
 | _,_,.cons c t=>by obtain⟨v,a,b⟩:=CV.v c;exact by obtain⟨vs,d,e⟩:=Nf.v t;exact⟨v::vs,.cons a d,fun ρ H=>aB.mpr ⟨v,vs,rfl,b ρ H,e ρ H⟩⟩
theorem qC{x:Str}{v:PV}{u:NJ}(hm:mg x=NG u)(c:CV v u): ∃ u v',mg x=NG u/\RelV v' u/\v7 K v'/\ ∀ ρ H,rel K ρ H v v':=by obtain⟨v',a,b⟩:=CV.v (K:=K) c;exact⟨u,v',hm,a,(λp e=>by subst e;cases(show u=Oe p from a);cases c),b⟩
def DV(K:NH) x (u:NJ):= ∃ v,RelV v u/\ ∀ ρ H,rel K ρ H x v
theorem Cj(h:Pd (λ(p) (l:Str × Tok × NJ)=>p.1= .inr l.1/\DV K p.2 l.2.2) kvs ls): ∃ kws,KV kws (ls.map λp=>((UU p.1),p.2.2))/\ ∀ ρ H,RK K ρ H kvs kws:=by
 induction h with
 | nil=>exact⟨[],.nil,λ_ _=> .nil⟩
 | @cons p l ps qs a t ih =>
  obtain⟨kws,r,q⟩:=ih
  obtain⟨e,v,r1,r2⟩:=a
  exact⟨(.inr l.1,v)::kws,.cons ⟨rfl,r1⟩ r,fun ρ H=> .cons ⟨e,r2 ρ H⟩ (q ρ H)⟩
end
abbrev CP(ak:List NJ)(n:Nat)(dd:Option NQ)(sl:Array (Option NJ)):Obj:={ cls:= .type "tuple",dict:=dd,data:= .seq ak.toArray n,slots:=sl}
theorem qy(h1: -(2 ^ 63)<=k)(h2:k < 2 ^ 63): ¬ (decide (k < -(2 ^ 63))||decide (k ≥ 2 ^ 63))=true:=by
 simp_all
theorem qX l ak n k u dd sl (h1: -(2 ^ 63)<=k) (h2:k < 2 ^ 63) (hs:(ak.toArray.isEmpty||k == 1)=true) :
  WV (To.«tuple.__mul__» ⟨[.ref l,.int k u],[]⟩) (λ_ R s=>s.heap.get? l=NG (CP ak n dd sl)/\R (.ok (.ret (.ref l))) s) :=
 .of_wp λprog w A R s h=>by
  obtain⟨hl,h⟩:=h;refine Pj (λz=>absurd z (qy h1 h2)) (λ_=>?_)
  wp_walk using O1 hl,Rp hl
  refine Pj (λ_=>?_) (λz=>absurd hs z)
  wp_walk using O1 hl,Rp hl
  exact⟨_,rfl,h⟩
theorem qz l ak n k u dd sl (h1: -(2 ^ 63)<=k) (h2:k<=0) (hs: ¬ (ak.toArray.isEmpty||k == 1)=true) :
  WV (To.«tuple.__mul__» ⟨[.ref l,.int k u],[]⟩) (λ_ R s=>s.heap.get? l=NG (CP ak n dd sl)/\R (.ok (.ret (.ref s.heap.objs.size))) { s with heap:=s.heap.push { cls:= .type "tuple",data:= .seq #[]}}) :=
 .of_wp λprog w A R s h=>by
  obtain⟨hl,h⟩:=h;have hz:(decide (k<=0)||ak.toArray.isEmpty)=true:=by simp[h2]
  refine Pj (λz=>absurd z (qy h1 (by omega))) (λ_=>?_)
  wp_walk using O1 hl,Rp hl
  refine Pj (λz=>absurd z hs) (λ_=>?_);refine Pj (λ_=>?_) (λz=>absurd hz z);exact NL (m:=Pf _) (Pp (N2 ⟨_,rfl,h⟩) (by size_fits))
theorem qV l ak n (k:Int) u dd sl (h1:0 < k) (h2:(ak.length)*k<=100000) (hk:k<=100000) (hs: ¬ (ak.toArray.isEmpty||k == 1)=true) :
  WV (To.«tuple.__mul__» ⟨[.ref l,.int k u],[]⟩) (λ_ R s=>s.heap.get? l=NG (CP ak n dd sl)/\R (.ok (.ret (.ref s.heap.objs.size))) { s with heap:=s.heap.push { cls:= .type "tuple",data:= .seq (NM k.toNat ak).flatten.toArray}}) :=
 .of_wp λprog w A R s h=>by
  obtain⟨hp,g,d,tk,os⟩:=s;obtain⟨hl,h⟩:=h;have f1:=AutoSeq1.idx_int;have hz: ¬ (decide (k<=0)||ak.toArray.isEmpty)=true:=by
   simp_all
  have hc1: ¬ ((ak.toArray.size)*k > (2 ^ 63 - 1) / 8):=by rw[Oi];omega
  have hc2: ¬ (Sz ((ak.toArray.size)*k)=true):=by
   unfold Sz;rw[Oi,decide_eq_true_eq,show((NZ))=16777216 from by decide];omega
  have e0:VW (λx1 x2=>x1++x2) #[] (NM k.toNat ak.toArray)=(NM k.toNat ak).flatten.toArray:=by
   have:=foldl_rep ak k.toNat [];rw[Oo] at this;exact this
  wp_walk using O1 hl,Rp hl
  refine Pj (λz=>absurd z (qy (by omega) (by omega))) (λ_=>?_)
  wp_walk using O1 hl,Rp hl
  refine Pj (λz=>absurd z hs) (λ_=>?_);refine Pj (λz=>absurd z hz) (λ_=>?_);refine Pj (λhab=>absurd hab hc1) (λ_=>?_);refine Pj (λhab=>absurd hab hc2) (λ_=>?_);refine NL (m:=Pf _) (Pp (N2 ⟨_,rfl,?_⟩) ?_)
  . rw[e0];exact h
  . rw[e0];show(NM k.toNat ak).flatten.toArray.size<=NZ;rw[Oi,len_rep,Sj];refine N5 (show ak.length*k.toNat<=100000 from ?_) (by decide);have e1:((ak.length*k.toNat:Nat))=(ak.length)*k:=by rw[Int.natCast_mul,Int.toNat_of_nonneg (by omega)]
    omega
def GS(K:NH):R2:=λx y H Q=> ∃ a k xs,x= .ref a/\y= .int k/\fk K H a xs/\(xs.length)*k<=100000/\ -100000<=k/\k<=100000/\(xs=[]\/k=1->Q (.ref a) H)/\(¬ (xs=[]\/k=1)-> ∀ p,H p=NI->Q (.ref p) (upd H p (.tup (NM k.toNat xs).flatten)))
theorem wg:bT X (O3 .Mult) (GS X.K):=by
 intro pins s σ H x y v u Q I rx ry h;obtain⟨a,k,xs,rfl,rfl,ha,hl,k1,k2,q1,q2⟩:=h;cases(show v=Oe a from rx);obtain⟨t,rfl⟩:=ry;obtain⟨ak,r1,p1,_⟩:=I.tuple ha;obtain⟨⟨cls,dd,data,sl⟩,ho,hc,n,hd⟩:=id p1;simp only at hc hd;subst hc hd;have hlen:=r1.length;refine SH (T:= "tuple") (U:= "int") (by decide) ⟨_,ho,rfl⟩ (λs'=>Tn s' k t) iE PySem.F.fills_int_mul TR mz PySem.F.slot_int_index.lookup
  (PU TR (Tn s k t) PySem.F.entry_int_rmul (PySem.F.args_int_rmul_2 _ _) (kn k t a ak.toArray n dd sl) ⟨ho,rfl,⟨_,ho,rfl⟩,?_⟩)
 have hx:=(r1.jv).symm;by_cases hs:xs=[]\/k=1
 . have hb:(ak.toArray.isEmpty||k == 1)=true:=by
    simp_all
   exact PU P0 ⟨_,ho,rfl⟩ Rx (Rh _ _) (qX a ak n k t dd sl (by omega) (by omega) hb) ⟨ho,⟨.ref a,H,I,rfl,q1 hs⟩⟩
 . have hb: ¬ (ak.toArray.isEmpty||k == 1)=true:=λz=>hs (by
    rw[R9] at z;rcases z with z | z
    . exact .inl (hx.mpr (by simpa using z))
    . exact .inr (by simpa using z))
   by_cases hk:0 < k
   . refine PU P0 ⟨_,ho,rfl⟩ Rx (Rh _ _) (qV a ak n k t dd sl hk (by rw[<- hlen];exact hl) k2 hb) ⟨ho,?_⟩;refine⟨.ref s.heap.objs.size,_,I.laid (t':=s.toks) (o:= .tup (NM k.toNat xs).flatten) (λb ob q=>NT _ q) (NS _) ?_,rfl,q2 hs _ (I.aW.fresh (NS _))⟩;refine⟨?_,_,r1.rep k.toNat,kP.new _ _⟩;rw[len_rep,Sj];refine N5 (show xs.length*k.toNat<=100000 from ?_) (by decide);have e1:((xs.length*k.toNat:Nat))=(xs.length)*k:=by grind
     omega
   . refine PU P0 ⟨_,ho,rfl⟩ Rx (Rh _ _) (qz a ak n k t dd sl (by omega) (by omega) hb) ⟨ho,?_⟩;refine⟨.ref s.heap.objs.size,_,I.laid (t':=s.toks) (o:= .tup (NM k.toNat xs).flatten) (λb ob q=>NT _ q) (NS _) ?_,rfl,q2 hs _ (I.aW.fresh (NS _))⟩;have:k.toNat=0:=by omega
     rw[this];exact⟨OU _,[],.nil,kP.new _ _⟩
section
variable{X:Cx}{pg:Tb}{k:Nat}
theorem ah.rep{K}(r:ah K ρ H xs vs): ∀ n,ah K ρ H (NM n xs).flatten (NM n vs).flatten
 | 0=>bq.mpr rfl
 | n+1=>by exact r.app (r.rep n)
def eN:PV->PV->PH->RV PV:=λx y h=>match x,y with
 | .int i,.int j=>if (-(2 ^ 64) < i/\i < 2 ^ 64)\/(-(2 ^ 64) < j/\j < 2 ^ 64) then .ok (.int (i*j)) h else .no
 | .tup xs,.int k=>if (xs.length)*k<=100000/\ -100000<=k/\k<=100000 then .ok (.tup (NM k.toNat xs).flatten) h else .no
 | .ref n,.int k=>(match h[n]? with
  | some (.lst xs)=>if (-(2 ^ 63)<=k/\k < 2 ^ 63)/\xs.length*k.toNat<=NZ then .ok (.ref h.length) (h++[.lst (NM k.toNat xs).flatten]) else .no
  | _=> .no)
 | _,_=> .no
theorem Gb:bO X pg k-> ∃ r,bT X (O3 .Mult) r/\iy X.K r eN:=λ_=>⟨_,EV.or (wg.or DA),fun ρ h H x y x' y' Q v h' s rx ry q P=>by
 unfold eN at q;split at q
 . split at q
   . rename_i hc;cases q;exact .inl ⟨_,_,rx,ry,hc,P _ ρ H (.refl _ _) s (by rw[rel])⟩
   . nomatch q
 . rename_i xs k;split at q
   . rename_i hc;cases q;have rx':=rx;obtain⟨a,us,rfl,e2,e3⟩:=rx;refine .inr (.inl ⟨a,k,us,rfl,ry,.of e2,by rw[<- e3.len];exact hc.1,hc.2.1,hc.2.2,λz=>?_,λz p hp=>jw s (e3.rep _) P p hp⟩);have:(NM k.toNat xs).flatten=xs:=by
      rcases z with z | z
      . subst z;have:=R5 e3.len;subst this;simp
      . rw[z];simp[NM]
     rw[this] at P;exact P _ ρ H (.refl _ _) s rx'
   . nomatch q
 . split at q
   . rename_i xs en;split at q
     . rename_i hc;cases q;obtain⟨a,us,rfl,_,e1,e2⟩:=s.lst en rx;exact .inr (.inr ⟨a,_,us,rfl,ry,e1,hc.1.1,hc.1.2,by rw[<- e2.len];exact hc.2,λp hp=>dJ s (e2.rep _) P p hp⟩)
     . nomatch q
   . nomatch q
 . nomatch q⟩
end
def fin(h:PH)(r:RV Fl):RV PV:=match r with
 | .ok (.rt v) h'=>settle h v h'
 | .ok (.nx _) h'=>settle h .non h'
 | _=> .no
def Fn(h:PH)(r:RV Fl):RV PV:=match r with
 | .ok (.rt v) h'=>settle h v h'
 | .ok (.nx _) h'=>settle h .non h'
 | .ex c us h'=>cF h c us h'
 | _=> .no
theorem run_eq{pg:Tb}{k:Nat}{f:String}{d:Df}{vs:List PV}{h:PH}(hf:pg.fns f=NG d)(hn:vs.length=d.ps.length)(hz:pg.rz f=false:=by rfl):run pg (k+1) f vs h=fin h (d.body (run pg k) (vs.map NG++NM d.nl NI) h):=by
 rw[run,j3 hf];simp only[if_pos hn,hz];generalize d.body (run pg k) (vs.map NG++NM d.nl NI) h=r;cases r with
 | ok g h'=>cases g<;>rfl
 | ex=>rfl
 | no=>rfl
theorem fQ{pg:Tb}{k:Nat}{f:String}{d:Df}{vs:List PV}{h:PH}(hf:pg.fns f=NG d)(hn:vs.length=d.ps.length)(hz:pg.rz f=true:=by rfl):run pg (k+1) f vs h=Fn h (d.body (run pg k) (vs.map NG++NM d.nl NI) h):=by
 rw[run,j3 hf];simp only[if_pos hn,hz];generalize d.body (run pg k) (vs.map NG++NM d.nl NI) h=r;cases r with
 | ok g h'=>cases g<;>rfl
 | ex=>rfl
 | no=>rfl
theorem bR:(RV.ok a h).bind f=f a h:=(rfl)
theorem CC:fin h (.ok (.rt v) h')=settle h v h':=(rfl)
theorem zH{h h':PH}{v:PV}:Fn h (.ok (.rt v) h')=settle h v h':=(rfl)
theorem Bk{h h':PH}{c:Nat}{us:List (Str × PV)}:Fn h (.ex c us h')=cF h c us h':=(rfl)
theorem JN{α β :Type}{c:Nat}{us:List (Str × PV)}{h:PH}{f: α ->PH->RV β}:(RV.ex c us h:RV α).bind f= .ex c us h:=(rfl)
theorem pv:settle h v h= .ok v h:=by unfold settle;split<;>simp
theorem bX(hv:v.flat=true):settle h v (h++g)= .ok v h:=by unfold settle;rw[hv,d7];simp
theorem bC(hv:v.flat=false):settle h v h'= .ok v h':=by unfold settle;rw[hv];rfl
theorem iW{h g:PH}{C:Nat}{us:List (Str × PV)}(hv:PV.bF (us.map (·.2))=true):cF h C us (h++g)= .ex C us h:=by unfold cF;rw[hv,d7];simp
theorem qa(hv:v.flat=true)(e:h[i]?=NG o)(m:o.dA=o'.dA)(hu:o'.fJ h.length=true):settle h v (h.set i o'++g)= .ok v (h.set i o'):=by
 unfold settle;have:bE h.length h (h.set i o'++g)=true:=by
  have h1:=jS hu h (h++g) i o (d7 _ h g) e m
  rwa[List.set_append_left _ _ (NN.mp e).1] at h1
 rw[hv,this];simp[List.take_append_of_le_length]
theorem pS{h:PH}{v:PV}{i:Nat}{o o':PO}:settle h v (h.set i o')= .ok v (h.set i o'):=by
 unfold settle;split
 . rw[<- VE (as:=h) (i:=i) (a:=o'),Vt]
 . rfl
theorem nF:NP a=NP b↔a=b:=by
 refine⟨λe=>?_,λe=>by rw[e]⟩;rw[Tr,Tr] at e;have e1:a.toList.map Ru=b.toList.map Ru:=by
  have:=congrArg (λs:Str=>s.cps.toList) e;simpa using this
 have inj: ∀{l m:List Char},l.map Ru=m.map Ru->l=m:=by
  intro l
  induction l with
  | nil=>intro m h;cases m with | nil=>rfl | cons=>cases h
  | cons x r ih =>
   intro m h
   cases m with
   | nil=>cases h
   | cons y t =>
    simp only[List.cons.injEq,NR] at h
    have:=Char.toNat_inj.mp h.1
    rw[this,ih h.2]
 exact String.toList_inj.mp (inj e1)
section
variable{c:CF}{e e1:aG}{h h1:PH}{a b d:ME}{t u:MT}{r:MA}{x y v:PV}{f g:PV->PV->PH->RV PV}{s s':MS}{i n:Nat}
def JJ(f:PV->PV->PH->RV PV)(b:ME) c e x h1:=(b c e h1).bind λy h2=>f x y h2
theorem Cu:aD f a b c e h=(a c e h).bind (JJ f b c e):=rfl
theorem xE:JJ f b c e x h1=(b c e h1).bind (f x):=rfl
theorem Ic{f}:nM f a c e h=(a c e h).bind f:=rfl
noncomputable def DS(o:Option (Option PV))(h:PH):RV PV:=match o with
 | some (NG v)=> .ok v h
 | _=> .no
theorem yc:aa i c e h=DS (e[i]?) h:=rfl
theorem rP:DS (NG (NG v)) h= .ok v h:=rfl
theorem LN:eC v c e h= .ok v h:=rfl
theorem GQ:pU (.bl p) h= .ok p h:=rfl
noncomputable def wJ(b:ME) c e x h1:=if x=true then b c e h1 else .ok (.bl false) h1
theorem Gm:oO a b c e h=((a c e h).bind pU).bind (wJ b c e):=rfl
theorem BR:wJ b c e true h=b c e h:=rfl
theorem Ba:wJ b c e false h= .ok (.bl false) h:=rfl
theorem Af[Decidable p]:wJ b c e (decide p) h=if p then b c e h else .ok (.bl false) h:=by unfold wJ;by_cases q:p<;>simp[q]
noncomputable def HY(b:ME) c e x h1:=if x=true then .ok (.bl true) h1 else b c e h1
theorem HU:LX a b c e h=((a c e h).bind pU).bind (HY b c e):=rfl
theorem D7:HY b c e true h= .ok (.bl true) h:=rfl
theorem FN:HY b c e false h=b c e h:=rfl
theorem DO[Decidable p]:HY b c e (decide p) h=if p then .ok (.bl true) h else b c e h:=by unfold HY;by_cases q:p<;>simp[q]
noncomputable def C8(a b:ME) c e x h1:=if x=true then a c e h1 else b c e h1
theorem Ie:qY t a b c e h=(t c e h).bind (C8 a b c e):=rfl
theorem Ef:C8 a b c e true h=a c e h:=rfl
theorem Fz:C8 a b c e false h=b c e h:=rfl
theorem Fs[Decidable p]:C8 a b c e (decide p) h=if p then a c e h else b c e h:=by unfold C8;by_cases q:p<;>simp[q]
theorem D6[Decidable p]:C8 a b c e (!decide p) h=if p then b c e h else a c e h:=by unfold C8;by_cases q:p<;>simp[q]
theorem DW:aV a c e h=(a c e h).bind pU:=rfl
noncomputable def j4(u:MT) c e x h1:=if x=true then u c e h1 else .ok false h1
theorem Bv:yu t u c e h=(t c e h).bind (j4 u c e):=rfl
theorem wF:j4 u c e true h=u c e h:=rfl
theorem vR:j4 u c e false h= .ok false h:=rfl
theorem xT[Decidable p]:j4 u c e (decide p) h=if p then u c e h else .ok false h:=by unfold j4;by_cases q:p<;>simp[q]
theorem wc[Decidable p]:j4 u c e (!decide p) h=if p then .ok false h else u c e h:=by unfold j4;by_cases q:p<;>simp[q]
noncomputable def pW(u:MT) c e x h1:=if x=true then .ok true h1 else u c e h1
theorem CW:yK t u c e h=(t c e h).bind (pW u c e):=rfl
theorem Av:pW u c e true h= .ok true h:=rfl
theorem y8:pW u c e false h=u c e h:=rfl
theorem Aq[Decidable p]:pW u c e (decide p) h=if p then .ok true h else u c e h:=by unfold pW;by_cases q:p<;>simp[q]
theorem Aw[Decidable p]:pW u c e (!decide p) h=if p then u c e h else .ok true h:=by unfold pW;by_cases q:p<;>simp[q]
noncomputable def CB(x:Bool)(h1:PH):RV Bool:= .ok (!x) h1
theorem zb:j6 t c e h=(t c e h).bind CB:=rfl
theorem wO:CB p h= .ok (!p) h:=rfl
theorem AX:aU c e h= .ok true h:=rfl
theorem sH:aA c e h= .ok [] h:=rfl
noncomputable def C5(x:PV)(xs:List PV)(h2:PH):RV (List PV):= .ok (x::xs) h2
def Fj(r:MA) c e x h1:=(r c e h1).bind (C5 x)
theorem oW:ag a r c e h=(a c e h).bind (Fj r c e):=rfl
theorem lX:Fj r c e x h=(r c e h).bind (C5 x):=rfl
theorem k9:C5 x xs h= .ok (x::xs) h:=rfl
theorem et{r:RV α}(hn:n<=16777216):kN n r=r:=by exact if_pos hn
def JY(xs:List PV)(h:PH):RV PV:=kN xs.length (.ok (.tup xs) h)
theorem FP:cC r c e h=(r c e h).bind JY:=rfl
theorem BK:JY xs h=kN xs.length (.ok (.tup xs) h):=(rfl)
def Iv(xs:List PV)(h:PH):RV PV:=kN xs.length (.ok (.ref h.length) (h++[.lst xs]))
theorem xa:bP r c e h=(r c e h).bind Iv:=rfl
theorem rQ:Iv xs h=kN xs.length (.ok (.ref h.length) (h++[.lst xs])):=(rfl)
theorem Bb{f}:ai f r c e h=(r c e h).bind (c f):=rfl
theorem Lp{f}:eB f r c e h=(r c e h).bind f:=rfl
def pz(f:PV->List PV->PH->RV PV)(ty:PV->PH->Bool)(r:MA) c e x h1:=if ty x h1=true then(r c e h1).bind (f x) else .no
theorem fU{f}:eM f ty a r c e h=(a c e h).bind (pz f ty r c e):=rfl
def uq(g:PV->PV->PH->RV PV)(d:ME) c e y k h3:=if k=true then(d c e h3).bind (g y) else .ok (.bl false) h3
def FI(f g:PV->PV->PH->RV PV) d c e x y h2:=((f x y h2).bind pU).bind (uq g d c e y)
def HQ(f g:PV->PV->PH->RV PV)(b d:ME) c e x h1:=(b c e h1).bind (FI f g d c e x)
theorem Iu:iK f g a b d c e h=(a c e h).bind (HQ f g b d c e):=rfl
theorem DL:HQ f g b d c e x h=(b c e h).bind (FI f g d c e x):=rfl
theorem FZ:FI f g d c e x y h=((f x y h).bind pU).bind (uq g d c e y):=rfl
theorem yP:uq g d c e y true h=(d c e h).bind (g y):=rfl
theorem yF:uq g d c e y false h= .ok (.bl false) h:=rfl
theorem z8[Decidable p]:uq g d c e y (decide p) h=if p then(d c e h).bind (g y) else .ok (.bl false) h:=by unfold uq;by_cases q:p<;>simp[q]
noncomputable def wZ(s:MS) c (f:Fl) (h1:PH):=match f with
 | .nx e1=>s c e1 h1
 | f=> .ok f h1
theorem DM:aj s s' c e h=(s c e h).bind (wZ s' c):=rfl
theorem AU:wZ s c (.nx e) h=s c e h:=(rfl)
theorem zW:wZ s c (.rt v) h= .ok (.rt v) h:=rfl
theorem Bu:wZ s c (.bk e) h= .ok (.bk e) h:=rfl
theorem zr:wZ s c (.ct e) h= .ok (.ct e) h:=rfl
theorem HN:ee c e h= .ok (.nx e) h:=rfl
noncomputable def Mg(e:aG)(_:PV)(h1:PH):RV Fl:= .ok (.nx e) h1
theorem zD:cK a c e h=(a c e h).bind (Mg e):=rfl
theorem w5:Mg e x h= .ok (.nx e) h:=rfl
noncomputable def ID(v:PV)(h1:PH):RV Fl:= .ok (.rt v) h1
theorem Gf:aZ a c e h=(a c e h).bind ID:=rfl
theorem yE:ID v h= .ok (.rt v) h:=rfl
noncomputable def qW(s s':MS) c e x h1:=if x=true then s c e h1 else s' c e h1
theorem D5:cZ t s s' c e h=(t c e h).bind (qW s s' c e):=rfl
theorem AZ:qW s s' c e true h=s c e h:=rfl
theorem AE:qW s s' c e false h=s' c e h:=rfl
theorem zP[Decidable p]:qW s s' c e (decide p) h=if p then s c e h else s' c e h:=by unfold qW;by_cases q:p<;>simp[q]
theorem yR[Decidable p]:qW s s' c e (!decide p) h=if p then s' c e h else s c e h:=by unfold qW;by_cases q:p<;>simp[q]
noncomputable def CG(e1:aG)(h2:PH):RV Fl:= .ok (.nx e1) h2
def DN(g:MG) e v h1:=(g v e h1).bind CG
theorem Gk{g}:ar a g c e h=(a c e h).bind (DN g e):=rfl
theorem zF:DN (gN i) e v h= .ok (.nx (e.set i (NG v))) h:=rfl
theorem zX:DN (gT n gs) e v h=(gT n gs v e h).bind CG:=rfl
theorem Eu:CG e h= .ok (.nx e) h:=rfl
theorem pB:gN i v e h= .ok (e.set i (NG v)) h:=rfl
theorem IZ(hn:xs.length=n):gT n gs (.tup xs) e h=gs xs e h:=if_pos hn
theorem EI:gT 2 gs (.tup [x1,x2]) e h=gs [x1,x2] e h:=rfl
theorem DI:gT 3 gs (.tup [x1,x2,x3]) e h=gs [x1,x2,x3] e h:=rfl
theorem Dt:gT 4 gs (.tup [x1,x2,x3,x4]) e h=gs [x1,x2,x3,x4] e h:=rfl
theorem EF:gT 5 gs (.tup [x1,x2,x3,x4,x5]) e h=gs [x1,x2,x3,x4,x5] e h:=rfl
theorem DJ:f9 [] e h= .ok e h:=rfl
theorem Dp{g r t}:bW g r (v::t) e h=(g v e h).bind (r t):=rfl
def yh(f:PV->PV->PV->PH->RV Unit)(e:aG)(v x y:PV)(h3:PH):RV Fl:=(f x y v h3).bind λ_ h4=> .ok (.nx e) h4
def xF(f:PV->PV->PV->PH->RV Unit)(i:ME) c e v x h2:=(i c e h2).bind (yh f e v x)
def Ca(f:PV->PV->PV->PH->RV Unit)(o i:ME) c e v h1:=(o c e h1).bind (xF f i c e v)
theorem FV{f i}:oM f o i a c e h=(a c e h).bind (Ca f o i c e):=rfl
theorem BF{f i}:Ca f o i c e v h=(o c e h).bind (xF f i c e v):=rfl
theorem Ag{f i}:xF f i c e v x h=(i c e h).bind (yh f e v x):=rfl
noncomputable def MC(e:aG)(_:Unit)(h:PH):RV Fl:= .ok (.nx e) h
theorem yV{f}:yh f e v x y h=(f x y v h).bind (MC e):=rfl
theorem D8{u}:MC e u h= .ok (.nx e) h:=rfl
def aX(g:MG)(s:MS) c x e h:=(g x e h).bind (s c)
def fork g s c e it h1:=bc it (aX g s c) it.items e h1
theorem E3{i g}:eR i g s c e h=(i c e h).bind (fork g s c e):=(rfl)
theorem Bn{g}:fork g s c e it h=bc it (aX g s c) it.items e h:=(rfl)
theorem xA{g}:aX g s c x e h=(g x e h).bind (s c):=(rfl)
theorem Ei:gE a c e h=(a c e h).bind jW:=(rfl)
theorem C0:jW (.tup xs) h= .ok ⟨NI,xs⟩ h:=(rfl)
theorem Fu:jW (.ktup xs) h= .ok ⟨NI,xs⟩ h:=(rfl)
def KR(n:Nat)(h:PH)(o:Option PO):RV kD:=match o with
 | some (.lst xs)=> .ok ⟨NG n,xs⟩ h
 | some (.gO xs)=> .ok ⟨NG n,xs⟩ h
 | _=> .no
theorem Fv:jW (.ref n) h=KR n h (h[n]?):=by
 have e:jW (.ref n) h=(match bK h n with | some xs=> .ok ⟨NG n,xs⟩ h | none=> .no):=rfl;rw[e];unfold bK KR;generalize h[n]?=oo;cases oo with
 | none=>rfl
 | some o=>cases o<;>rfl
theorem Em:KR n h (NG (.lst xs))= .ok ⟨NG n,xs⟩ h:=(rfl)
theorem Dr:KR n h (NG (.gO xs))= .ok ⟨NG n,xs⟩ h:=(rfl)
def Mr(vs:List PV)(h1:PH):RV kD:=match vs with
 | [.int j]=>if -(2 ^ 62)<=j/\j < 2 ^ 62 then .ok ⟨NI,aw 0 j.toNat⟩ h1 else .no
 | _=> .no
theorem GF:bG r c e h=(r c e h).bind Mr:=by
 rfl
theorem zp(hj: -4611686018427387904<=j/\j < 4611686018427387904):Mr [.int j] h= .ok ⟨NI,aw 0 j.toNat⟩ h:=by
 exact if_pos (by omega)
def Aa(vs:List PV)(h1:PH):RV kD:=match vs with
 | [.int i,.int j]=>if (-(2 ^ 62)<=i∧i < 2 ^ 62)∧ -(2 ^ 62)<=j∧j < 2 ^ 62 then .ok ⟨NI,aw i (j - i).toNat⟩ h1 else .no
 | _=> .no
theorem FX : gQ r c e h = (r c e h).bind Aa := by
  unfold gQ;generalize r c e h = z;cases z with
  | ok a b =>
    rw [d6, d6]
    unfold Aa
    split
    . rfl
    . rename_i hx
      first
      | rfl
      | (split
         . exact absurd rfl (hx _ _)
         . rfl)
  | ex a b d => rfl
  | no => rfl
theorem zA{i j:Int}(hi: -4611686018427387904<=i∧i < 4611686018427387904)(hj: -4611686018427387904<=j∧j < 4611686018427387904):Aa [.int i,.int j] h= .ok ⟨NI,aw i (j - i).toNat⟩ h:=by
 unfold Aa;exact if_pos (by omega)
def Lf it (step:PV->aG->PH->RV Fl) (xs:List PV) (f:Fl) (h1:PH):=match f with
 | .nx e1=>bc it step xs e1 h1
 | .ct e1=>bc it step xs e1 h1
 | .bk e1=> .ok (.nx e1) h1
 | .rt v=> .ok (.rt v) h1
theorem di{step}:bc ⟨NI,xs⟩ step [] e h= .ok (.nx e) h:=(rfl)
theorem cw{step}:bc ⟨NI,xs⟩ step (y::ys) e h=(step y e h).bind (Lf ⟨NI,xs⟩ step ys):=(rfl)
theorem b6{step}:Lf it step xs (.nx e) h=bc it step xs e h:=(rfl)
theorem rf{step}:Lf it step xs (.rt v) h= .ok (.rt v) h:=(rfl)
noncomputable def Gw(ys:List PV)(h2:PH):RV PV:= .ok (.ref h2.length) (h2++[.lst ys])
def JQ k g t a c e it h1:=(eO it (bp k g t a c e) it.items [] h1).bind Gw
theorem Kb{i g}:d5 k i g t a c e h=(i c e h).bind (JQ k g t a c e):=(rfl)
theorem Fo{g}:JQ k g t a c e it h=(eO it (bp k g t a c e) it.items [] h).bind Gw:=(rfl)
theorem En:Gw ys h= .ok (.ref h.length) (h++[.lst ys]):=(rfl)
noncomputable def wI(y:PV)(h4:PH):RV (Option PV):= .ok (NG y) h4
def ow(a:ME) c e2 b h3:=if b=true then(a c e2 h3).bind wI else .ok NI h3
def Kh(t:MT) a c e2 h2:=(t c e2 h2).bind (ow a c e2)
theorem Jz{g}:bp k g t a c e x h=(g x (e++NM k NI) h).bind (Kh t a c):=(rfl)
theorem Ff:Kh t a c e h=(t c e h).bind (ow a c e):=(rfl)
theorem Bj:ow a c e true h=(a c e h).bind wI:=(rfl)
theorem y4:ow a c e false h= .ok NI h:=(rfl)
theorem y0[Decidable p]:ow a c e (decide p) h=if p then(a c e h).bind wI else .ok NI h:=by unfold ow;by_cases q:p<;>simp[q]
theorem Ak[Decidable p]:ow a c e (!decide p) h=if p then .ok NI h else(a c e h).bind wI:=by unfold ow;by_cases q:p<;>simp[q]
theorem CL:wI y h= .ok (NG y) h:=(rfl)
theorem cH{α :Type}{it:kD}(hf:it.gK h=true){step:PV->PH->RV (Option PV)}{f: α ->Option PV}{g: α ->PV}: ∀(l:List α)(ys:List PV),(∀ x∈l,step (g x) h= .ok (f x) h)->l.length+ys.length<=16777216->eO it step (l.map g) ys h= .ok (ys++l.filterMap f) h
 | [],ys,_,_=>by rw[OG,eO,if_pos hf];simp
 | x::xs,ys,hs,hl=>by
  have hl':ys.length < NZ:=by rw[NK] at hl;show ys.length < 16777216;omega
  rw[NR,eO,if_pos ⟨hf,hl'⟩,hs x N1];cases q:f x with
  | none=>exact(cH hf xs ys (λy m=>hs y (NW _ m)) (by grind)).trans (by rw[S0 q])
  | some y=>exact(cH hf xs (ys++[y]) (λz m=>hs z (NW _ m)) (by rw[NK] at hl;simp;omega)).trans (by rw[OH q];simp)
end
section
variable{h:PH}{i j:Int}{a b:Str}{x y z w u v:PV}{r xs ys:List PV}{p q:Bool}{n m:Nat}
theorem AN:tP (.int i) (.int j) h= .ok (.int (i - j)) h:=(rfl)
theorem An:az (.int i) (.int j) h= .ok (.int (i+j)) h:=(rfl)
theorem sC(hl:a.length+b.length<=16777216):az (.str a) (.str b) h= .ok (.str (a++b)) h:=et hl
theorem m8(hl:xs.length+ys.length<=16777216):az (.tup xs) (.tup ys) h= .ok (.tup (xs++ys)) h:=et hl
theorem jz(e1:h[n]?=NG (.lst xs))(e2:h[m]?=NG (.lst ys))(hl:xs.length+ys.length<=16777216):az (.ref n) (.ref m) h= .ok (.ref h.length) (h++[.lst (xs++ys)]):=by
 unfold az;simp only[e1,e2];exact et (by simpa using hl)
theorem A6(hj:0 < j):kM (.int i) (.int j) h= .ok (.int (i % j)) h:=by unfold kM p2;simp[hj,Bi,d6]
theorem y7(hj:0<=j/\j<=1000000/\i.natAbs < 18446744073709551616):uV (.int i) (.int j) h= .ok (.int (i ^ j.toNat)) h:=by
 unfold uV p2;simp only;rw[if_pos (by omega)];rfl
theorem Am(hi: -18446744073709551616 < i/\i < 18446744073709551616):eN (.int i) (.int j) h= .ok (.int (i*j)) h:=if_pos (.inl (by omega))
theorem rA(hj: -18446744073709551616 < j/\j < 18446744073709551616):eN (.int i) (.int j) h= .ok (.int (i*j)) h:=if_pos (.inr (by omega))
theorem ES:EK (.int i) (.int j) h= .ok (.bl (decide (i < j))) h:=(rfl)
theorem Ec:zU (.int i) (.int j) h= .ok (.bl (decide (i<=j))) h:=(rfl)
theorem Gj:KW (.int i) (.int j) h= .ok (.bl (decide (j < i))) h:=(rfl)
theorem BC:fZ (.str a) (.str b) h= .ok (.bl (decide (a=b))) h:=by simp[fZ,alike,iV]
theorem BO:fZ (.int i) (.int j) h= .ok (.bl (decide (i=j))) h:=by simp[fZ,alike,iV]
theorem Bq:iz (.str a) (.str b) h= .ok (.bl (!decide (a=b))) h:=by simp[iz,alike,iV,eF]
theorem AR:iz (.int i) (.int j) h= .ok (.bl (!decide (i=j))) h:=by simp[iz,alike,iV,eF]
theorem L7:fP (.tup (x::r)) (.int 0) h= .ok x h:=by
 simp only[fP,fE,nO];rw[if_pos (by decide),if_pos (by simp_all)];rfl
theorem LV:fP (.tup (x::y::r)) (.int 1) h= .ok y h:=by
 simp only[fP,fE,nO];rw[if_pos (by decide),if_pos (by simp only[NK];omega)];rfl
theorem L9:fP (.tup (x::y::z::r)) (.int 2) h= .ok z h:=by
 simp only[fP,fE,nO];rw[if_pos (by decide),if_pos (by simp only[NK];omega)];rfl
theorem cO{xs}(e:i=(n)){v: α}(q:xs[n]?=NG v):fE xs i=NG v:=by
 have hl:=(NN.mp q).1;subst e;unfold fE nO;rw[if_pos (by omega),if_pos (by omega)];simpa using q
def Lx(y:PV)(h:PH)(o:Option PO):RV PV:=match o with
 | some (.dct kvs)=>(match oR y with
  | some k=>(match nU kvs k with | some v=> .ok v h | none=> .no)
  | none=> .no)
 | some (.lst xs)=>(match y with
  | .int i=>(match fE xs i with | some v=> .ok v h | none=> .no)
  | _=> .no)
 | some (.gO xs)=>(match y with
  | .int i=>(match fE xs i with | some v=> .ok v h | none=> .no)
  | _=> .no)
 | _=> .no
theorem mJ:fP (.ref n) y h=Lx y h (h[n]?):=by
 rfl
noncomputable def Me(h:PH)(o:Option PV):RV PV:=match o with
 | some v=> .ok v h
 | none=> .no
theorem nk:Lx (.int i) h (NG (.lst xs))=Me h (fE xs i):=(rfl)
theorem Bh:Me h (NG v)= .ok v h:=(rfl)
def xp(n:Nat)(y v:PV)(h:PH)(o:Option PO):RV Unit:=match o with
 | some (.dct kvs)=>(match oR y with
  | some k=>if kvs.length < NZ then .ok () (h.set n (.dct (zJ kvs k v))) else .no
  | none=> .no)
 | some (.lst xs)=>(match y with
  | .int i=>(match nO xs.length i with | some j=> .ok () (h.set n (.lst (xs.set j v))) | none=> .no)
  | _=> .no)
 | _=> .no
theorem Hl:nv (.ref n) y v h=xp n y v h (h[n]?):=by
 rfl
def M9(n:Nat)(v:PV)(h:PH)(o:Option PO):RV PV:=match o with
 | some (.lst xs)=>if xs.length < NZ then .ok .non (h.set n (.lst (xs++[v]))) else .no
 | _=> .no
theorem Hd:bt (.ref n) [v] h=M9 n v h (h[n]?):=by
 rfl
theorem IM(hl:xs.length < 16777216):M9 n v h (NG (.lst xs))= .ok .non (h.set n (.lst (xs++[v]))):=if_pos hl
theorem dH(e:h[n]?=NG (.lst xs)):bf (.ref n) h=true:=by simp[bf,e]
theorem len_T:bB [.tup xs] h= .ok (.int xs.length) h:=(rfl)
theorem j7(e:h[n]?=NG (.lst xs)):bB [.ref n] h= .ok (.int xs.length) h:=by simp[bB,itemsOf,bK,e]
theorem Hg(e:h[n]?=NG (.gO xs)):bB [.ref n] h= .ok (.int xs.length) h:=by simp[bB,itemsOf,bK,e]
theorem cQ(e:h[n]?=NG (.lst xs)):aH [.ref n] h= .ok (.tup xs) h:=by simp[aH,bK,e]
theorem Km:mU false .non h= .ok (.bl true) h:=(rfl)
theorem Jq:mU false (.int i) h= .ok (.bl false) h:=by simp[mU]
section
variable{c:CF}{e:aG}{d k1 k2:ME}{rr:MA}{kvs:List (Key × PV)}{ff:PV->List PV->PH->RV PV}
def Lj(f:PV->List PV->PH->RV PV)(r:MA) c e n h (o:Option PO):=match o with
 | some (.lst _)=>(r c e h).bind (f (.ref n))
 | _=> .no
theorem Iq:pz ff bf rr c e (.ref n) h=Lj ff rr c e n h (h[n]?):=by
 unfold pz Lj bf;cases q:h[n]? with
 | none=>simp[q]
 | some o=>cases o<;>simp[q]
theorem EU:Lj ff rr c e n h (NG (.lst xs))=(rr c e h).bind (ff (.ref n)):=(rfl)
end
noncomputable def Lv(h:PH)(o:Option PO):RV PV:=match o with
 | some (.lst xs)=> .ok (.tup xs) h
 | some (.gO xs)=> .ok (.tup xs) h
 | _=> .no
theorem Bw:aH [.ref n] h=Lv h (h[n]?):=by
 unfold Lv;cases q:h[n]? with
 | none=>simp[aH,bK,q]
 | some o=>cases o<;>simp[aH,bK,q]
theorem vM:Lv h (NG (.lst xs))= .ok (.tup xs) h:=(rfl)
noncomputable def Kz(h:PH)(o:Option PO):RV PV:=match o with
 | some (.lst xs)=> .ok (.int xs.length) h
 | some (.gO xs)=> .ok (.int xs.length) h
 | some (.dct kvs)=> .ok (.int kvs.length) h
 | _=> .no
theorem Jr:bB [.ref n] h=Kz h (h[n]?):=by
 unfold Kz;cases q:h[n]? with
 | none=>simp[bB,itemsOf,bK,q]
 | some o=>cases o<;>simp[bB,itemsOf,bK,q]
theorem Gi:Kz h (NG (.lst xs))= .ok (.int xs.length) h:=(rfl)
theorem GB:Kz h (NG (.gO xs))= .ok (.int xs.length) h:=(rfl)
noncomputable def Ll(h:PH)(o:Option PO):RV PV:=match o with
 | some (.lst xs)=> .ok (.ref h.length) (h++[.lst xs])
 | some (.gO xs)=> .ok (.ref h.length) (h++[.lst xs])
 | _=> .no
theorem Ee:eA [.ref n] h=Ll h (h[n]?):=by
 unfold Ll;cases q:h[n]? with
 | none=>simp[eA,itemsOf,bK,q]
 | some o=>cases o<;>simp[eA,itemsOf,bK,q]
theorem AD:Ll h (NG (.lst xs))= .ok (.ref h.length) (h++[.lst xs]):=(rfl)
section
variable{c:CF}{e:aG}{d:ME}{l uu:MO}
def GP(uu:MO) c e x (lo:Option Int) h:=(uu c e h).bind (zI x lo)
def IG(l uu:MO) c e x h:=(l c e h).bind (GP uu c e x)
theorem Cm:cE d l uu c e h=(d c e h).bind (IG l uu c e):=(rfl)
theorem xJ:IG l uu c e x h=(l c e h).bind (GP uu c e x):=(rfl)
theorem u9{lo}:GP uu c e x lo h=(uu c e h).bind (zI x lo):=(rfl)
theorem u3:aC c e h= .ok NI h:=(rfl)
noncomputable def MK(v:PV)(h1:PH):RV (Option Int):=match v with
 | .int i=> .ok (NG i) h1
 | _=> .no
theorem JM:au d c e h=(d c e h).bind MK:=(rfl)
theorem GU:MK (.int i) h= .ok (NG i) h:=(rfl)
theorem Lc{lo}:zI (.tup xs) lo hi h= .ok (.tup (cS xs lo hi)) h:=(rfl)
def Kv(lo hi:Option Int)(h:PH)(o:Option PO):RV PV:=match o with
 | some (.lst xs)=> .ok (.ref h.length) (h++[.lst (cS xs lo hi)])
 | some (.gO xs)=> .ok (.ref h.length) (h++[.lst (cS xs lo hi)])
 | _=> .no
theorem D2{lo}:zI (.ref n) lo hi h=Kv lo hi h (h[n]?):=by
 unfold Kv;cases q:h[n]? with
 | none=>simp[zI,bK,q]
 | some o=>cases o<;>simp[zI,bK,q]
theorem uQ{lo}:Kv lo hi h (NG (.lst xs))= .ok (.ref h.length) (h++[.lst (cS xs lo hi)]):=(rfl)
theorem Jo{lo hi:Option Int}:Kv lo hi h (NG (.gO xs))= .ok (.ref h.length) (h++[.lst (cS xs lo hi)]):=(rfl)
theorem gS{lo}(h0:0<=lo):cS xs (NG lo) NI=xs.drop lo.toNat:=by
 have e:lo=((lo.toNat)):=by omega
 unfold cS;rw[e,HT.jA,HT.hR];simp only[QN];rcases Tq lo.toNat xs.length with z | z
 . grind
 . rw[Q4 z,PZ z];simp
theorem m6(h0:0<=hi):cS xs NI (NG hi)=xs.take hi.toNat:=by
 have e:hi=((hi.toNat)):=by omega
 unfold cS;rw[e,HT.jA,HT.hR];simp only[QN,T6,Va];rcases Tq hi.toNat xs.length with z | z
 . rw[TB z]
 . rw[Q4 z,Qv (NS _),Qv z]
end
variable{o o':PO}{g:PH}{k:Nat}
theorem aF:(h++(o::g))[h.length]?=NG o:=by rw[Oz (NS _)];simp
theorem aN:(h++g)[h.length+k]?=g[k]?:=by rw[Oz (by omega)];congr 1;omega
theorem tU:(h++g).set h.length o=h++g.set 0 o:=by simp
end
section
variable{h:PH}{i j:Int}{a b:Str}{x y z w u v:PV}{r xs ys:List PV}{p q:Bool}{n m:Nat}
theorem rJ: ∀ bs ,qM (bs.map PV.bl)=NG bs
 | []=>rfl
 | b::r=>by rw[NR,qM,rJ r];rfl
theorem Jc{bs:List Bool}(e:h[n]?=NG (.lst (bs.map PV.bl))):x8 [.ref n] h= .ok (.bl (bs.all id)) h:=by
 simp[x8,rL,bK,e,rJ]
theorem fC:fE (x::r) 0=NG x:=by simp only[fE,nO];rw[if_pos (by decide),if_pos (by simp_all)];rfl
theorem p9:fE (x::y::r) 1=NG y:=by simp only[fE,nO];rw[if_pos (by decide),if_pos (by simp only[NK];omega)];rfl
theorem qu:fE (x::y::z::r) 2=NG z:=by simp only[fE,nO];rw[if_pos (by decide),if_pos (by simp only[NK];omega)];rfl
theorem vn:fE (x::y::z::w::r) 3=NG w:=by simp only[fE,nO];rw[if_pos (by decide),if_pos (by simp only[NK];omega)];rfl
end
section
variable{α :Type}{p:List α ->Prop}
theorem Nx(h:p []): ∀ us:List α,us.length=0->p us:=λus e=>by simp_all
theorem Lg{n:Nat}(h: ∀ a: α,∀ us:List α,us.length=n->p (a::us)): ∀ us:List α,us.length=n+1->p us:=λus e=>by
 cases us with
 | nil=>simp at e
 | cons a r=>exact h a r (by simpa using e)
theorem Le(h: ∀ a,p [a]): ∀ us:List α,us.length=1->p us:=Lg λa=>Nx (h a)
theorem KC(h: ∀ a b,p [a,b]): ∀ us:List α,us.length=2->p us:=Lg λa=>Le (h a)
theorem MU(h: ∀ a b c,p [a,b,c]): ∀ us:List α,us.length=3->p us:=Lg λa=>KC (h a)
end
section
variable{X:Cx}{pg:Tb}{k:Nat}{e iter:Ou}{ma:ME}{mt:MT}{mI:MI}{scope:Q5}{ifs:List Ou}{pos spos py vp wp tp:Pos}{y v w:Str}{i j m n:Nat}
theorem GC.of{K}(h:SR n i=true):GC K n (cL i) (gN i):=zM (TU h)
theorem Fm(hi:JI X pg k (.Name v vp) iter mI)
  (hb: ∀ cl C s₀ H₀ ex pn,(bO X pg k->QG (bQ X [v] scope cl C s₀ H₀ ex pn) (.Name v vp) (cL m))/\JF (bQ X [v] scope cl C s₀ H₀ ex pn) pg k ifs mt/\JE (bQ X [v] scope cl C s₀ H₀ ex pn) pg k e ma)
  (hm:SR X.N.length m=true:=by rfl) (hkind:scope.kind= .function:=by rfl) (hlc:da scope.names X.env.scope.names X.N [v]=true:=by rfl) (hs: ∀ x,Oq iter X.env x=pure x:=by intro _;rfl) :
  JE X pg k (.ListComp e [⟨.Name v vp,iter,ifs,0⟩] scope pos) (d5 1 mI (gN m) mt ma):=o8 [v] hkind hlc hi hb (GC.of hm) hs
theorem E8(hi:JI X pg k (.Tuple [.Name v vp,.Name w wp] j tp) iter mI)
  (hb: ∀ cl C s₀ H₀ ex pn,(bO X pg k->QG (bQ X [v,w] scope cl C s₀ H₀ ex pn) (.Tuple [.Name v vp,.Name w wp] j tp) (pY X.K 2 (jc (cL m) (jc (cL n) uy))))/\JF (bQ X [v,w] scope cl C s₀ H₀ ex pn) pg k ifs mt/\JE (bQ X [v,w] scope cl C s₀ H₀ ex pn) pg k e ma)
  (hm:SR X.N.length m=true:=by rfl) (hn:SR X.N.length n=true:=by rfl) (hkind:scope.kind= .function:=by rfl) (hlc:da scope.names X.env.scope.names X.N [v,w]=true:=by rfl) (hs: ∀ x,Oq iter X.env x=pure x:=by intro _;rfl) :
  JE X pg k (.ListComp e [⟨.Tuple [.Name v vp,.Name w wp] j tp,iter,ifs,0⟩] scope pos) (d5 2 mI (gT 2 (bW (gN m) (bW (gN n) f9))) mt ma):=o8 [v,w] hkind hlc hi hb (xc (ir (GC.of hm) (ir (GC.of hn) sA))) hs
theorem EW(hN:X.N.Nodup)(hi:JI X pg k (.Name v vp) iter mI)
  (hb: ∀ cl C s₀ H₀ ex pn,(bO X pg k->QG (bQ X [v] scope cl C s₀ H₀ ex pn) (.Name v vp) (cL m))/\JF (bQ X [v] scope cl C s₀ H₀ ex pn) pg k ifs mt/\JE (bQ X [v] scope cl C s₀ H₀ ex pn) pg k e ma)
  (hm:SR X.N.length m=true:=by rfl) (hiy:X.N[i]?=NG y:=by rfl) (hy:Loc X.env.scope y:=by first | exact RX rfl | exact RL rfl) (hkind:scope.kind= .function:=by rfl) (hlc:da scope.names X.env.scope.names X.N [v]=true:=by rfl)
  (hsw:Pt (.ListComp e [⟨.Name v vp,iter,ifs,0⟩] scope pos) (NG (.Name y py)) spos.line X.env=pure true:=by rfl) (hs: ∀ x,Oq iter X.env x=pure x:=by intro _;rfl)
  (hf:X.fn y=true\/X.env.scope.names.lookup y=NG .local:=by first | exact .inl rfl | exact .inr rfl | assumption) :
  JS X pg k (.Assign [.Name y py] (.ListComp e [⟨.Name v vp,iter,ifs,0⟩] scope pos) spos) (ar (d5 1 mI (gN m) mt ma) (gN i)):=nR [v] i hkind hlc hN hiy hy hi hb (GC.of hm) hsw hs hf
theorem DK(hN:X.N.Nodup)(hi:JI X pg k (.Tuple [.Name v vp,.Name w wp] j tp) iter mI)
  (hb: ∀ cl C s₀ H₀ ex pn,(bO X pg k->QG (bQ X [v,w] scope cl C s₀ H₀ ex pn) (.Tuple [.Name v vp,.Name w wp] j tp) (pY X.K 2 (jc (cL m) (jc (cL n) uy))))/\JF (bQ X [v,w] scope cl C s₀ H₀ ex pn) pg k ifs mt/\JE (bQ X [v,w] scope cl C s₀ H₀ ex pn) pg k e ma)
  (hm:SR X.N.length m=true:=by rfl) (hn:SR X.N.length n=true:=by rfl) (hiy:X.N[i]?=NG y:=by rfl) (hy:Loc X.env.scope y:=by first | exact RX rfl | exact RL rfl) (hkind:scope.kind= .function:=by rfl) (hlc:da scope.names X.env.scope.names X.N [v,w]=true:=by rfl)
  (hsw:Pt (.ListComp e [⟨.Tuple [.Name v vp,.Name w wp] j tp,iter,ifs,0⟩] scope pos) (NG (.Name y py)) spos.line X.env=pure true:=by rfl) (hs: ∀ x,Oq iter X.env x=pure x:=by intro _;rfl)
  (hf:X.fn y=true\/X.env.scope.names.lookup y=NG .local:=by first | exact .inl rfl | exact .inr rfl | assumption) :
  JS X pg k (.Assign [.Name y py] (.ListComp e [⟨.Tuple [.Name v vp,.Name w wp] j tp,iter,ifs,0⟩] scope pos) spos) (ar (d5 2 mI (gT 2 (bW (gN m) (bW (gN n) f9))) mt ma) (gN i)):=nR [v,w] i hkind hlc hN hiy hy hi hb (xc (ir (GC.of hm) (ir (GC.of hn) sA))) hsw hs hf
end
end P3
end
section
open PySem PySem.W PyProof.Rows
namespace L2
open PySem PySem.Spec PyProof.Rows
theorem mS: ∀{us ss},StrsAre us ss-> ∀ i hu(hs:i < ss.length),VO a us[i]=(ss[i] == a)
 | _,_,.nil,i,hu,_=>absurd hu (Nat.not_lt_zero i)
 | _,_,.cons x t h,0,_,_=>rfl
 | _,_,.cons x t h,i+1,hu,hs=>mS h i (Ts hu) (Ts hs)
theorem FD{ss:List Str}(h:a∈ss):ss.idxOf a < ss.length:=List.idxOf_lt_length_iff.mpr h
end L2
namespace P3
open PySem PySem.Spec PyProof.Rows L2
section
variable{X:Cx}{pg:Tb}{k j n:Nat}{es:List Ou}{t:yn}{pos:Pos}{vars:List Str}{scope:Q5}{cl:List (Str × NQ)}{C:NQ}{s0:NO}{H0:Hp}{ex:List NQ}{pn:List (NQ × Obj)}
theorem Br(A:bO X pg k)(h:CI (bQ X vars scope cl C s0 H0 ex pn) es t)(hn:(O5 es (bQ X vars scope cl C s0 H0 ex pn).env).length=n:=by rfl)(hst:(O5 es (bQ X vars scope cl C s0 H0 ex pn).env).findIdx? (·.1)=NI:=by rfl):QG (bQ X vars scope cl C s0 H0 ex pn) (.Tuple es j pos) (pY X.K n t):=xG A.calm h hn hst
end
section
variable{X:Cx}{pg:Tb}{k:Nat}
def Ki(K:NH):List V->Hp->VK->Prop:=λxs H Q=> ∃ p d,xs=[.ref p]/\bL K H d (.ref p)/\d.showable=true/\d.hasDict=false/\d.depth<=64/\d.shown.length<=NZ/\Q (.str d.shown) H
theorem vX(gd:X.A.guards=NG [])(hu:X.A.units+66 < RE):aP X (.builtin "repr") (Ki X.K):=by
 intro pins s σ H xs us Q I r h;obtain⟨p,d,rfl,hd,h1,h2,h3,h4,q⟩:=h;obtain⟨u,rfl,ru⟩:=vals1 r;cases(show u=Oe p from ru);obtain⟨as,ra⟩:=bL.reads I d _ _ hd ru;exact repr_of_reads' ra h1 (λz=>by simp_all) gd (by omega) (λ_ _ z=>z) (λh' u tk kp=>⟨.str d.shown,H,I.kept kp,⟨u,rfl⟩,q⟩) h4
variable{a:Ou}{ta:TA}{mr:MA}{p p2 p3 pos:Pos}
end
end P3
end
section
open PySem PySem.W PyProof.Rows
namespace L2
open PySem PySem.Spec PyProof.Rows
open PySem.AutoSeq1 (wpAny_loadPart')
section
variable{X:Cx}
theorem places{a:Str}{t:Tok}{ak:List NJ}{ss:List Str}(sa:StrsAre ak ss)(ln:ak.length=ss.length)(ha:a∈ss) :
  ∃ hj:ss.idxOf a < ak.toArray.size,VO a ak.toArray[ss.idxOf a]=true/\ ∀(m:Nat)(hm:m < ak.toArray.size),m < ss.idxOf a->VO a ak.toArray[m]=false:=by
 have hj:=FD ha;refine⟨by rw[Oi,ln];exact hj,?_,λm hm hlt=>?_⟩
 . show VO a (ak[ss.idxOf a]'(by rw[ln];exact hj))=true;rw[mS sa _ _ hj,List.getElem_idxOf hj];exact beq_self_eq_true a
 . have hm':m < ss.length:=by simp_all
   show VO a (ak[m]'(by omega))=false;have nf:=List.not_of_lt_findIdx (p:=(· == a)) (xs:=ss) (i:=m) hlt
   rw[mS sa _ _ hm'];simpa using nf
variable{o e:Ou}{to:TE}{t:TA}{name:Str}{apos cpos:Pos}{id:String}{r:V->List V->Hp->VK->Prop}
end
end L2
namespace P3
open PySem PySem.Spec PyProof.Rows L2
section
variable{X:Cx}{pg:Tb}{k:Nat}
def CT:List V->Hp->VK->Prop:=λxs H Q=>(∃ b,xs=[.bl b]/\Q (.str (if b=true then NP "True" else NP "False")) H)\/(xs=[.non]/\Q (.str (NP "None")) H)
theorem tW:aP X (.builtin "repr") CT:=by
 intro pins s σ H xs us Q I r h;rcases h with⟨b,rfl,q⟩ | ⟨rfl,q⟩
 . obtain⟨u,rfl,ru⟩:=vals1 r;cases(show u=Sq b from ru);exact PySem.P.repr_of_bool ⟨.str _,H,I.tok _,⟨_,rfl⟩,q⟩
 . obtain⟨u,rfl,ru⟩:=vals1 r;cases(show u=OW from ru);exact PySem.P.repr_of_none ⟨.str _,H,I.tok _,⟨_,rfl⟩,q⟩
def sS(d:QK):=d.showable=true/\d.hasDict=false/\d.depth<=64/\d.shown.length<=NZ
instance (d:QK):Decidable (sS d):=by unfold sS;infer_instance
def aO:List PV->PH->RV PV:=λxs h=>match xs with
 | [.bl b]=> .ok (.str (if b=true then NP "True" else NP "False")) h
 | [.non]=> .ok (.str (NP "None")) h
 | [.tup ys]=>(match dat 6 h (.tup ys) with
  | some d=>if sS d then .ok (.str d.shown) h else .no
  | none=> .no)
 | [.ref n]=>(match dat 6 h (.ref n) with
  | some d=>if sS d then .ok (.str d.shown) h else .no
  | none=> .no)
 | _=> .no
theorem yD:bO X pg k-> ∃ r,aP X (.builtin "repr") r/\uI X.K r aO:=λA=>⟨_,(vX A.room.gd (by have:=A.room.un;omega)).or tW,fun ρ h H xs us Q v h' s r q P=>by
 unfold aO at q;split at q
 . rename_i b;cases q;obtain⟨u,rfl,r1⟩:=aM r;subst r1;exact .inr (.inl ⟨b,rfl,P _ ρ H (.refl _ _) s (by rw[rel])⟩)
 . cases q;obtain⟨u,rfl,r1⟩:=aM r;subst r1;exact .inr (.inr ⟨rfl,P _ ρ H (.refl _ _) s (by rw[rel])⟩)
 . split at q
   . rename_i d e;split at q
     . rename_i c;cases q;obtain⟨u,rfl,r1⟩:=aM r;have dv:=dat.v s 6 _ _ _ e r1;have r2:=r1;obtain⟨a,vs,rfl,_,_⟩:=r2;exact .inl ⟨a,d,rfl,dv,c.1,c.2.1,c.2.2.1,c.2.2.2,P _ ρ H (.refl _ _) s (by rw[rel])⟩
     . nomatch q
   . nomatch q
 . split at q
   . rename_i d e;split at q
     . rename_i c;cases q;obtain⟨u,rfl,r1⟩:=aM r;have dv:=dat.v s 6 _ _ _ e r1;have r2:=r1;obtain⟨a,_,rfl⟩:=r2;exact .inl ⟨a,d,rfl,dv,c.1,c.2.1,c.2.2.1,c.2.2.2,P _ ρ H (.refl _ _) s (by rw[rel])⟩
     . nomatch q
   . nomatch q
 . nomatch q⟩
end
section
variable{P:Om}{w:OC}{K:NH}{mg:Str->Option NJ}{pg:Tb}
theorem bS.on{f:String}{ps:List Str}{n:Nat}{b:MS}{st:Pn}{N:List Str}(a:At K mg (NP f) st)(S:br N ps (ae st))(hl:N.length=ps.length+n)
  (hb: ∀(kV doc pm:NJ)(an:Option NQ)(cdv ct:NJ)(us:List NJ),us.length=ps.length->Pw (OA (NP f) (NP f) (aS st) (ay st) (ae st) .none kV doc pm an cdv ct) ⟨us,[]⟩=pure (ps.zip us))
  (hz:pg.rz f=false) (h:N.Nodup-> ∀(base:OQ)(fa:NQ)(cdv:NJ)(A:OI)(outer:List Env)(s:NO)(H:Hp)(E:XK)(k:Nat),uG (cJ (gz P w) P w K mg base N (NP f) (ae st) fa cdv A outer s H E).c8 pg k (ay st) b):bS P w K mg pg f ⟨ps,n,b⟩ st N :=
 ⟨a,S,hl,hb,λbase fa cdv A outer s H E k=> .inl ⟨hz,h S.nd base fa cdv A outer s H E k⟩⟩
theorem bS.Nw{f:String}{ps:List Str}{n:Nat}{b:MS}{st:Pn}{N:List Str}(a:At K mg (NP f) st)(S:br N ps (ae st))(hl:N.length=ps.length+n)
  (hb: ∀(kV doc pm:NJ)(an:Option NQ)(cdv ct:NJ)(us:List NJ),us.length=ps.length->Pw (OA (NP f) (NP f) (aS st) (ay st) (ae st) .none kV doc pm an cdv ct) ⟨us,[]⟩=pure (ps.zip us))
  (h:N.Nodup-> ∀(base:OQ)(fa:NQ)(cdv:NJ)(A:OI)(outer:List Env)(s:NO)(H:Hp)(E:XK)(k:Nat),kS (cJ (gz P w) P w K mg base N (NP f) (ae st) fa cdv A outer s H E) pg k E (ay st) b):bS P w K mg pg f ⟨ps,n,b⟩ st N :=
 ⟨a,S,hl,hb,λbase fa cdv A outer s H E k=> .inr (h S.nd base fa cdv A outer s H E k)⟩
end
def eI(i:Int):=eC (.int i)
def eS(x:Str):=eC (.str x)
def eX(i:Nat)(j:Int):=aD fP (aa i) (eI j)
def mQ a b:=aV (aD fZ a b)
def a1 a:=ag a aA
def a2 a b:=ag a (a1 b)
def a3 a b d:=ag a (a2 b d)
section
variable{a b d:ME}{c:CF}{e:aG}{h:PH}{i:Nat}{j:Int}{s:Str}{x y z v:PV}
theorem Hr:eI j c e h= .ok (.int j) h:=rfl
theorem Hz:eS s c e h= .ok (.str s) h:=rfl
def xk(o:Option (Option PV)) j h:=(DS o h).bind λx h1=>fP x (.int j) h1
theorem HS:eX i j c e h=xk (e[i]?) j h:=rfl
theorem Ik:xk (NG (NG v)) j h=fP v (.int j) h:=rfl
def KG x y h:=(fZ x y h).bind pU
def Mh(b:ME) c e x h:=(b c e h).bind (KG x)
theorem HC:mQ a b c e h=(a c e h).bind (Mh b c e):=by
 show((a c e h).bind _).bind pU=_;cases a c e h with
 | ok x h1 =>
  show((b c e h1).bind _).bind pU=(b c e h1).bind (KG x)
  cases b c e h1<;>rfl
 | _=>rfl
theorem FT:Mh b c e x h=(b c e h).bind (KG x):=rfl
theorem F8:KG x y h=(fZ x y h).bind pU:=rfl
noncomputable def Mv(x:PV)(h:PH):RV (List PV):= .ok [x] h
theorem Jf:a1 a c e h=(a c e h).bind Mv:=rfl
theorem FF:Mv x h= .ok [x] h:=rfl
noncomputable def Kt(x y:PV)(h:PH):RV (List PV):= .ok [x,y] h
def MW(b:ME) c e x h:=(b c e h).bind (Kt x)
theorem Cd:a2 a b c e h=(a c e h).bind (MW b c e):=by
 show(a c e h).bind _=_;cases a c e h with
 | ok x h1 =>
  show((b c e h1).bind _).bind _=(b c e h1).bind (Kt x)
  cases b c e h1<;>rfl
 | _=>rfl
theorem DC:MW b c e x h=(b c e h).bind (Kt x):=rfl
theorem GA:Kt x y h= .ok [x,y] h:=rfl
noncomputable def K3(x y z:PV)(h:PH):RV (List PV):= .ok [x,y,z] h
def KJ(d:ME) c e x y h:=(d c e h).bind (K3 x y)
def Ms(b d:ME) c e x h:=(b c e h).bind (KJ d c e x)
theorem Ht:a3 a b d c e h=(a c e h).bind (Ms b d c e):=by
 show(a c e h).bind (Fj (a2 b d) c e)=_;cases a c e h with
 | ok x h1 =>
  show(a2 b d c e h1).bind _=(b c e h1).bind (KJ d c e x)
  rw[Cd]
  cases b c e h1 with
  | ok y h2 =>
   show((d c e h2).bind _).bind _=(d c e h2).bind (K3 x y)
   cases d c e h2<;>rfl
  | _=>rfl
 | _=>rfl
theorem Ek:Ms b d c e x h=(b c e h).bind (KJ d c e x):=rfl
theorem EY:KJ d c e x y h=(d c e h).bind (K3 x y):=rfl
theorem Dk:K3 x y z h= .ok [x,y,z] h:=rfl
end
abbrev LA(h:OQ)(z TI TO T:NQ)(b:Bool):Prop :=
 h.get? z=NG { cls:= .type "zip",dict:=NI,data:= .fields #[.int (T:Int) 0,.bool b,.bool false,.ref TI,.ref TO],slots:= #[]}
section
variable{prog:Om}{w:OC}{A:OI}{E:NJ->NO->Prop}{s:NO}
structure xg(h:OQ)(z TI TO i1 i2 l1 l2:NQ)(k:Nat)(xs ys:Array NJ):Prop where
 st:(∃ a b,IsZip h z TI TO .none/\IsPair h TO a b)\/ ∃ T b o,LA h z TI TO T b/\h.get? T=NG o/\T≠z/\T≠i1/\T≠i2/\T≠TO
 ak:IsPair h TI (.ref i1) (.ref i2)
 one:h.IsListIter i1 l1 k
 two:h.IsListIter i2 l2 k
 l1:h.IsList l1 xs
 l2:h.IsList l2 ys
theorem xg.ty{TI TO l1 l2}(Z:xg s.heap z TI TO i1 i2 l1 l2 k xs ys):s.TypeIs (.ref z) "zip" :=by
 rcases Z.st with⟨a,b,e,_⟩ | ⟨T,b,o,e,_⟩
 . exact⟨_,e,rfl⟩
 . exact⟨_,e,rfl⟩
theorem xg.kept{TI TO l1 l2}(Z:xg h z TI TO i1 i2 l1 l2 k xs ys)(ns:S≠z/\S≠TI/\S≠TO/\S≠i1/\S≠i2/\S≠l1/\S≠l2)(kp: ∀ b o,b≠S->h.get? b=NG o->h'.get? b=NG o)
  (al: ∀ T o,h.get? T=NG o-> ∃ o',h'.get? T=NG o'):xg h' z TI TO i1 i2 l1 l2 k xs ys:=by
 obtain⟨n1,n2,n3,n4,n5,n6,n7⟩:=ns;obtain⟨st,hTI,h1,h2,hl1,hl2⟩:=Z;refine⟨?_,kp _ _ n2.symm hTI,h1.at λo e=>kp _ o n4.symm e,h2.at λo e=>kp _ o n5.symm e,hl1.at λo e=>kp _ o n6.symm e,hl2.at λo e=>kp _ o n7.symm e⟩;rcases st with⟨a,b,hz,hTO⟩ | ⟨T,b,o,hz,hT,t⟩
 . exact .inl ⟨a,b,kp _ _ n1.symm hz,kp _ _ n3.symm hTO⟩
 . obtain⟨o',e⟩:=al T o hT;exact .inr ⟨T,b,o',kp _ _ n1.symm hz,e,t⟩
end
end P3
end
section
open PySem PySem.W PyProof.Rows
namespace L2
open PySem PySem.Spec PyProof.Rows
end L2
namespace P3
open PySem PySem.Spec PyProof.Rows L2
end P3
end
section
open PySem PySem.W PyProof.Rows
namespace L2
open PySem PySem.Spec PyProof.Rows
section
variable{X:Cx}
theorem wB:bT X (O3 .FloorDiv) (rI (λ_ j=>0 < j/\j < 18446744073709551616) λi j=> .int (i / j)):=K8 λi j _ _ _ _ _ hc q=>by
 have h1:(0:Int) < j:=hc.1;have h2:j < 18446744073709551616:=hc.2;have z:j.natAbs≠0:=by omega
 have lg:j.natAbs.log2 < 64:=(WX z).mpr (by omega);exact floordiv_int (by omega) (by rw[Int.fdiv_eq_ediv_of_nonneg i (by omega)];exact q) (.inl (PyProof.noPylong_of_log2 (by omega)))
def Js:List V->Hp->VK->Prop:=λxs H Q=>(∃ x,xs=[.str x]/\Q (.str x) H)\/ ∃ i:Int,xs=[.int i]/\i.natAbs.log2 < 1920/\Q (.str (NP (toString i))) H
theorem xo:aP X (.type "str") Js:=by
 intro pins s σ H xs us Q I r h;rcases h with⟨x,rfl,q⟩ | ⟨i,rfl,hi,q⟩
 . obtain⟨u,rfl,t,rfl⟩:=r.one;exact P.str_of_str ⟨.str x,H,I,⟨t,rfl⟩,q⟩
 . obtain⟨u,rfl,t,rfl⟩:=r.one;refine P.str_of_int hi ?_;exact⟨.str _,H,I.kept (t':=s.toks+1) (λb o e=>e),⟨_,rfl⟩,q⟩
theorem rp: ∀{ss:List Str}{ak:List NJ},Vals (ss.map V.str) ak-> ∃ l:List (Str × Tok),ak=Vu l/\l.map (·.1)=ss
 | [],ak,h=>by cases h;exact⟨[],rfl,rfl⟩
 | x::r,ak,h=>by
  cases h with
  | cons a b =>
   obtain⟨t,rfl⟩:=a
   obtain⟨l,rfl,e⟩:=rp b
   exact⟨(x,t)::l,rfl,by rw[NR,e]⟩
def rJoin:V->List V->Hp->VK->Prop:=λx vs H Q=> ∃ a l ss,x= .str a/\vs=[.ref l]/\H l=NG (.lst (ss.map V.str))/\WK a ss=true/\Q (.str (V0 a ss)) H
theorem AL:yq X "str.join" rJoin:=by
 intro pins s σ H x vs v us Q I rx rv h;obtain⟨a,l,ss,rfl,rfl,hH,hj,q⟩:=h;obtain⟨t,rfl⟩:=rx;obtain⟨u,rfl,ru⟩:=rv.one;cases ru;obtain⟨z,ak,n,r,hl,e⟩:=I.qr hH;obtain⟨ps,rfl,ep⟩:=rp r;exact SC.join (l:=ps) ⟨_,e,rfl,n,rfl⟩ ep hj λt' k=>⟨.str _,H,I.kept (t':=k) (λb o e=>e),⟨_,rfl⟩,q⟩
end
end L2
namespace P3
open PySem PySem.Spec PyProof.Rows L2
section
variable{X:Cx}{pg:Tb}{k:Nat}
def iR:PV->PV->PH->RV PV:=p2 λi j=>if 0 < j/\j < 18446744073709551616 then Bi (.int (i / j)) else .no
theorem zV:bO X pg k-> ∃ r,bT X (O3 .FloorDiv) r/\iy X.K r iR:=λ_=>⟨_,wB,EB λi j v h e=>by
 split at e
 . rename_i c;cases e;exact⟨c,fun ρ H=>by rw[rel]⟩
 . cases e⟩
theorem tj{i j:Int}{h:PH}(hj:0 < j/\j < 18446744073709551616):iR (.int i) (.int j) h= .ok (.int (i / j)) h:=by unfold iR p2;simp[hj,Bi,d6]
noncomputable def c9:List PV->PH->RV PV:=λxs h=>match xs with
 | [.str x]=> .ok (.str x) h
 | [.int i]=>if i.natAbs.log2 < 1920 then .ok (.str (NP (toString i))) h else .no
 | _=> .no
theorem vf:bO X pg k-> ∃ r,aP X (.type "str") r/\uI X.K r c9:=λA=>⟨_,xo,fun ρ h H xs us Q v h' s r q P=>by
 unfold c9 at q;split at q
 . cases q;obtain⟨u,rfl,r1⟩:=aM r;rw[rel] at r1;subst r1;exact .inl ⟨_,rfl,P _ ρ H (.refl _ _) s (by rw[rel])⟩
 . split at q
   . rename_i hi;cases q;obtain⟨u,rfl,r1⟩:=aM r;rw[rel] at r1;subst r1;exact .inr ⟨_,rfl,hi,P _ ρ H (.refl _ _) s (by rw[rel])⟩
   . cases q
 . cases q⟩
theorem oy{K:NH}{ρ :List NQ}{H:Hp}: ∀{ss:List Str}{vs:List V},ah K ρ H (ss.map PV.str) vs->vs=ss.map V.str
 | [],vs,h=>by rw[OG,ah] at h;exact h
 | x::r,vs,h=>by
  rw[NR] at h;obtain⟨v,t,rfl,r1,r2⟩:=aB.mp h;rw[rel] at r1;rw[r1,oy r2];rfl
theorem lE: ∀{xs:List PV}{ss:List Str},jT xs=NG ss->xs=ss.map PV.str
 | [],ss,e=>by cases e;rfl
 | x::r,ss,e=>by
  cases x<;>simp only[jT,reduceCtorEq] at e;rename_i a;cases q:jT r with
  | none=>rw[q] at e;cases e
  | some t =>
   rw[q] at e
   cases e
   rw[lE q];rfl
noncomputable def bD(x:PV)(_:PH):Bool:=match x with
 | .str _=>true
 | _=>false
theorem lC{K:NH}{ρ :List NQ}{h:PH}{H:Hp}{x:PV}{v:V}(r:rel K ρ H x v)(e:bD x h=true):Hx K "str" v H:=by
 unfold bD at e;split at e
 . rw[rel] at r;subst r;exact rfl
 . cases e
def gj(x:PV)(vs:List PV)(h:PH):RV PV:=match x,vs with
 | .str a,[.ref n]=>(match h[n]? with
  | some (.lst xs)=>(match jT xs with
   | some ss=>if WK a ss=true then .ok (.str (V0 a ss)) h else .no
   | none=> .no)
  | _=> .no)
 | _,_=> .no
theorem Ey:bO X pg k-> ∃ r,yq X "str.join" r/\Ja X.K "str" r gj bD:=λA=>⟨_,AL,fun ρ h H x x' s r e=>lC r e,fun ρ h H x x' xs us Q v h' s rx rs q P=>by
 unfold gj at q;split at q
 . rename_i a n;split at q
   . rename_i ys en;split at q
     . rename_i ss es;split at q
       . rename_i hj;cases q;obtain rfl:=lE es;obtain⟨u,rfl,r1⟩:=aM rs;obtain⟨b,vs,rfl,ea,e1,e2⟩:=s.lst en r1;rw[rel] at rx;rw[oy e2] at e1;exact⟨a,b,ss,rx,rfl,e1,hj,P _ ρ H (.refl _ _) s (by rw[rel])⟩
       . cases q
     . cases q
   . cases q
 . cases q⟩
theorem l6: ∀ ss:List Str,jT (ss.map PV.str)=NG ss
 | []=>rfl
 | x::r=>by rw[NR,jT,l6 r];rfl
theorem wQ{a:Str}{n:Nat}{h:PH}{ss:List Str}(e:h[n]?=NG (.lst (ss.map PV.str)))(hj:WK a ss=true):gj (.str a) [.ref n] h= .ok (.str (V0 a ss)) h:=by
 simp only[gj,e,l6,hj,if_true]
variable{d e1 e2:Ou}{md:ME}{mr:MA}{apos cpos:Pos}
end
end P3
end
section
open PySem PySem.W PyProof.Rows
namespace L2
open PySem PySem.Spec PyProof.Rows
section
variable{X:Cx}
theorem jY: ∀(l:List (Str × Tok)),Vals ((l.map (·.1)).map V.str) (Vu l)
 | []=> .nil
 | (x,t)::r=> .cons ⟨t,rfl⟩ (jY r)
def yH:V->List V->Hp->VK->Prop:=λx vs H Q=> ∃ a b,x= .str a/\vs=[.str b]/\(b.length == 0)=false/\a.length<=NZ/\(PB a b).length<=NZ/\ ∀ p,H p=NI->Q (.ref p) (upd H p (.lst ((PB a b).map V.str)))
theorem ud:yq X "str.split" yH:=by
 intro pins s σ H x vs v us Q I rx rv h;obtain⟨a,b,rfl,rfl,hb,ha,hn,q⟩:=h;obtain⟨t,rfl⟩:=rx;obtain⟨u,rfl,t2,rfl⟩:=rv.one;have put: ∀(ps:List (Str × Tok))(tk:Nat),ps.map (·.1)=PB a b->EP X pins σ Q (.ref s.heap.objs.size) { s with heap:=s.heap.push { cls:= .type "list",data:= .seq (Vu ps).toArray},toks:=tk}:=λps tk e=>by
  refine⟨.ref s.heap.objs.size,upd H s.heap.objs.size (.lst ((PB a b).map V.str)),I.laid (t':=tk) (λb u e=>NT _ e) (NS _) ?_,rfl,q _ (I.aW.fresh (NS _))⟩;exact⟨by rw[NU];exact hn,Vu ps,0,by rw[<- e];exact jY ps,Oh _ rfl⟩
 cases c:(decide (a.length < b.length)||decide (Uw a < Uw b)) with
 | true =>
  refine PU F.slot_str_split (RU _ _ _) F.entry_str_split (F.args_str_split_2 _ _) (meets_str_split_cannot_occur a b t t2 c) ?_
  exact put [(a,t)] s.toks (by unfold PB;rw[if_pos c];rfl)
 | false =>
  cases o:(OR a b 0 a.length (a.length+1)).isEmpty with
  | true =>
   refine PU F.slot_str_split (RU _ _ _) F.entry_str_split (F.args_str_split_2 _ _) (meets_str_split_not_found a b t t2 c hb o) ?_
   exact put [(a,t)] s.toks (by unfold PB;rw[if_neg (by rw[c];decide),if_pos o];rfl)
  | false =>
   have e:PB a b=Builtin.Str.partsBetween a (OR a b 0 a.length (a.length+1)) b.length:=by
    unfold PB;rw[if_neg (by rw[c];decide),if_neg (by rw[o];decide)]
   refine PU F.slot_str_split (RU _ _ _) F.entry_str_split (F.args_str_split_2 _ _) (meets_str_split_sep a b t t2 c hb o ha (by rw[<- e];exact hn)) ?_
   have w:=put (numbered s.toks (PB a b)) (s.toks+(PB a b).length) (numbered_texts _ _)
   rw[<- strsFrom_eq,e] at w
   exact w
noncomputable def dd:List Str->List Str
 | []=>[]
 | x::r=>if x∈dd r then dd r else x::dd r
end
section
variable{prog:Om}{w:OC}{A:OI}
def CO(prog:Om)(w:OC)(h:OQ)(S:NQ)(l:List Str):Prop:= ∃ ds:List Str,ds.Nodup/\(∀ k,k∈ds↔k∈l)/\h.SetOf (PySem.strKind prog w) S (λk=>decide (k∈ds)) ds.length
theorem CO.at{h h':OQ}{S:NQ}{l:List Str}(x:CO prog w h S l)(k: ∀ o,h.get? S=NG o->h'.get? S=NG o):CO prog w h' S l:=by
 obtain⟨ds,a,b,o,es,ep,t,e,r⟩:=x;exact⟨ds,a,b,o,es,ep,t,k _ e,r⟩
end
end L2
namespace P3
open PySem PySem.Spec PyProof.Rows L2
section
variable{X:Cx}{pg:Tb}{k:Nat}{e:Ou}{mr:MA}{p p2 p3 pos:Pos}
noncomputable def dP(x:PV)(vs:List PV)(h:PH):RV PV:=match x,vs with
 | .str a,[.str b]=>if (b.length == 0)=false/\a.length<=NZ/\(PB a b).length<=NZ then .ok (.ref h.length) (h++[.lst ((PB a b).map PV.str)]) else .no
 | _,_=> .no
theorem m_split:bO X pg k-> ∃ r,yq X "str.split" r/\Ja X.K "str" r dP bD:=λA=>⟨_,ud,fun ρ h H x x' s r e=>lC r e,fun ρ h H x x' xs us Q v h' s rx rs q P=>by
 unfold dP at q;split at q
 . rename_i a b;split at q
   . rename_i c;cases q;obtain⟨u,rfl,r1⟩:=aM rs;rw[rel] at rx r1;exact⟨a,b,rx,by rw[r1],c.1,c.2.1,c.2.2,λp hp=>dJ s (iS.mpr rfl) P p hp⟩
   . cases q
 . cases q⟩
theorem zN{a b:Str}{h:PH}(hb:(b.length == 0)=false)(ha:a.length<=16777216)(hn:(PB a b).length<=16777216):dP (.str a) [.str b] h= .ok (.ref h.length) (h++[.lst ((PB a b).map PV.str)]):=if_pos ⟨hb,ha,hn⟩
end
structure M0(pg:Tb)(w:String)(C:Nat)(l:List Str):Prop where
 adr:pg.adr w=NG (C,l)
 df:pg.df w=NI
 cls:pg.cls w=NI
theorem M0.run{pg:Tb}{w:String}{C:Nat}{l:List Str}(W:M0 pg w C l)(k:Nat)(vs:List PV)(h:PH):run pg (k+1) w vs h= .ok (.int C) h:=by rw[P3.run,W.df];simp only[W.cls,W.adr]
section
variable{K:NH}{ρ :List NQ}{H:Hp}{h:PH}
abbrev RF(K:NH)(ρ :List NQ)(H:Hp):List (Str × PV)->List (Str × V)->Prop:=Pd λ(p:Str × PV) (q:Str × V)=>p.1=q.1/\rel K ρ H p.2 q.2
theorem RF.look{f:Str}: ∀{fs:List (Str × PV)}{fws:List (Str × V)},RF K ρ H fs fws->(∀ v,fs.lookup f=NG v-> ∃ v',fws.lookup f=NG v'/\rel K ρ H v v')/\(fs.lookup f=NI->fws.lookup f=NI)
 | _,_,.nil=>⟨(λv e=>nomatch e),λ_=>rfl⟩
 | _,_,.cons (a:=p) (b:=q) r t=>by
  obtain⟨g,x⟩:=p;obtain⟨g',x'⟩:=q;obtain⟨i1,i2⟩:=RF.look (f:=f) t;have e:g=g':=r.1;subst e;rw[Pa,Pa];cases z:f == g with
  | true=>exact⟨λv e=>⟨x',rfl,by cases e;exact r.2⟩,λe=>nomatch e⟩
  | false=>exact⟨i1,i2⟩
theorem RF.len{fs:List (Str × PV)}{fws:List (Str × V)}(r:RF K ρ H fs fws):fs.length=fws.length:=Q9 r
end
abbrev TF:=Str->L2.St->Hp->(Str->Hp->Prop)->Prop
def Nm(X:Cx)(es:List Ou)(t:TF):Prop:= ∀(acc:Str)(pins:List (NQ × Obj))(s:NO)(σ :L2.St)(H:Hp)(Q:Str->Hp->Prop),Inv X pins σ H s->t acc σ H Q->Joins (Of X.prog X.w) X.A X.xe (evalEach es X.env) acc (λout s1=> ∃ H',Inv X pins σ H' s1/\Q out H') s
abbrev MF:=Str->CF->aG->PH->RV Str
def Nq(c:CF)(K:NH)(t:TF)(m:MF):Prop:= ∀ acc ρ h H e σ Q out h',bN K ρ h H->bM K ρ H e σ ->m acc c e h= .ok out h'->hI K ρ H h' (Q out)->t acc σ H Q
structure NF(X:Cx)(pg:Tb)(k:Nat)(es:List Ou)(m:MF):Prop where h:bO X pg k-> ∃ t,Nm X es t/\Nq (run pg k) X.K t m
def cY:List PV->PH->RV PV:=λxs h=>match xs with
 | [.str x]=>if x.length<=640 then(match T9 x with | some n=> .ok (.int n) h | none=> .no) else .no
 | _=>Er xs h
section
variable{X:Cx}{pg:Tb}{k:Nat}
theorem vZ:bO X pg k-> ∃ r,aP X (.type "int") r/\uI X.K r cY:=λA=>by
 obtain⟨r0,c0,s0⟩:=Ia A;refine⟨λvs H Q=>(∃ x n,vs=[.str x]/\T9 x=NG n/\x.length<=640/\Q (.int n) H)\/r0 vs H Q,?_,fun ρ h H xs us Q v h' s r q P=>?_⟩
 . intro pins s σ H vs us Q I rv h;rcases h with⟨x,n,rfl,hn,hl,q⟩ | h
   . cases rv with
     | cons ra rr =>
      cases rr
      obtain⟨t,rfl⟩:=ra
      exact KIN.call_text hn hl ⟨.int n,H,I.tok _,⟨_,rfl⟩,q⟩
   . exact c0 pins s σ H vs us Q I rv h
 . unfold cY at q;split at q
   . split at q
     . rename_i x hl;split at q
       . rename_i n hn;cases q;obtain⟨u,rfl,r1⟩:=aM r;rw[rel] at r1;subst r1;exact .inl ⟨x,n,rfl,hn,hl,P _ ρ H (.refl _ _) s (by rw[rel])⟩
       . nomatch q
     . nomatch q
   . exact .inr (s0 ρ h H xs us Q v h' s r q P)
end
noncomputable def Ad:Pn->List Pn
 | .ClassDef _ _ _ b _ _ _ _ _ _ _=>b
 | _=>[]
structure NB(P:Om)(w:OC)(K:NH)(mg:Str->Option NJ)(pg:Tb)(fn:String)(m:Str)(d:Df)(st:Pn)(N:List Str):Prop where
 no:pg.fns fn=NI
 sc:br N d.ps (ae st)
 len:N.length=d.ps.length+d.nl
 bd: ∀(kV doc pm:NJ)(an:Option NQ)(cdv ct:NJ)(us:List NJ),us.length=d.ps.length->Pw (OA m (NP fn) (aS st) (ay st) (ae st) .none kV doc pm an cdv ct) ⟨us,[]⟩=pure (d.ps.zip us)
 body: ∀(base:OQ)(fa:NQ)(cdv:NJ)(A:OI)(outer:List Env)(s:NO)(H:Hp)(E:XK)(k:Nat),JB (cJ (gz P w) P w K mg base N (NP fn) (ae st) fa cdv A outer s H E) pg k fn E (ay st) d.body
def KI(K:NH)(C:NQ)(m:Str)(fn:String)(st:Pn):Prop:= ∃ fa fd,mP K m (NP fn) st fa fd/\Meth K C m fa
section
variable{P:Om}{w:OC}{K:NH}{mg:Str->Option NJ}{pg:Tb}
theorem IY{C f:NQ}{m:Str}{fn:String}{st:Pn}{oc:NJ}{od an:Option NQ}{osl:Array (Option NJ)}{kV doc pm cdv ct:NJ}
  (a:Oc K (.ref C) m=NG (NG (.ref f))) (i:UZ K (.ref f)=true) (l:K.lookup f=NG ⟨oc,od,.func (OA m (NP fn) (aS st) (ay st) (ae st) .none kV doc pm an cdv ct),osl⟩) (c:R8 K cdv (NP fn)=true) (k:OZ K (.ref f)=true):KI K C m fn st :=
 ⟨f,_,vL l c k,a,i,k⟩
end
section
variable{X:Cx}{pg:Tb}{k:Nat}{a tg:Ou}{ma:ME}{p pos fpos:Pos}{els:List Ou}{j:Nat}{tpos:Pos}{g:MG}{ms:MS}{body:List Pn}
noncomputable def Nh(xs:List PV):List PV:=xs.zipIdx.map λq=> .tup [.int (q.2:Int),q.1]
def xm(n:Nat)(xs:List PV)(step:PV->aG->PH->RV Fl):List PV->aG->PH->RV Fl
 | [],e,h=>if bK h n=NG xs then .ok (.nx e) h else .no
 | x::r,e,h=>if bK h n=NG xs then(step x e h).bind (λf h1=>match f with
   | .nx e1=>xm n xs step r e1 h1
   | .ct e1=>xm n xs step r e1 h1
   | .bk e1=> .ok (.nx e1) h1
   | .rt v=> .ok (.rt v) h1) else .no
def LH(g:MG)(b:MS)(c:CF)(e:aG)(n:Nat)(h:PH):Option (List PV)->RV Fl
 | some xs=>xm n xs (aX g b c) (Nh xs) e h
 | none=> .no
end
end P3
end
section
open PySem PySem.W PyProof.Rows
namespace L2
open PySem PySem.Spec PyProof.Rows
section
variable{X:Cx}
theorem PE.up{e:Ou}{t:TE}(h:PE X.c8 e t):PE X e t:=λpins s σ H Q I q=>Oj (h pins s σ H Q (I.a0 _) q) (λu s' ⟨v,H',J,r,z⟩=>⟨v,H',J.bo,r,z⟩) λ_ _ z=>z.elim
theorem PT.up{e:Ou}{t:TT}(h:PT X.c8 e t):PT X e t:=λpins s σ H Q I q=>Oj (h pins s σ H Q (I.a0 _) q) (λu s' ⟨H',J,z⟩=>⟨H',J.bo,z⟩) λ_ _ z=>z.elim
theorem PA.up{e:List Ou}{t:TA}(h:PA X.c8 e t):PA X e t:=λpos pins s σ H Q I q=>Oj (h pos pins s σ H Q (I.a0 _) q) (λu s' ⟨v,H',J,r,z⟩=>⟨v,H',J.bo,r,z⟩) λ_ _ z=>z.elim
theorem PS.up{st:Pn}{t:TS}(h:PS X.c8 st t):PS X st t:=λpins s σ H D I q=>Oj (h pins s σ H D (I.a0 _) q) (λf s' z=>z.bo) λ_ _ z=>z.elim
theorem PG.up{e:Ou}{t:TG}(h:PG X.c8 e t):PG X e t:=λpins s σ H x u Q I r q=>Oj (h pins s σ H x u Q (I.a0 _) r q) (λ_ s' ⟨σ',H',J,z⟩=>⟨σ',H',J.bo,z⟩) λ_ _ z=>z.elim
theorem PF.up{e:List Ou}{t:TT}(h:PF X.c8 e t):PF X e t:=λpins s σ H Q I q=>Oj (h pins s σ H Q (I.a0 _) q) (λu s' ⟨H',J,z⟩=>⟨H',J.bo,z⟩) λ_ _ z=>z.elim
theorem aP.up{f:NJ}{r:List V->Hp->VK->Prop}(h:aP X.c8 f r):aP X f r:=λpins s σ H xs us Q I rv q=>Oj (h pins s σ H xs us Q (I.a0 _) rv q) (λu s' ⟨v,H',J,r,z⟩=>⟨v,H',J.bo,r,z⟩) λ_ _ z=>z.elim
end
end L2
namespace P3
open PySem PySem.Spec PyProof.Rows L2
noncomputable def RV.strip:RV α ->RV α
 | .ok a h=> .ok a h
 | _=> .no
def nX(m:ME):ME:=λc e h=>(m c e h).strip
def nA(m:MA):MA:=λc e h=>(m c e h).strip
def nS(m:MS):MS:=λc e h=>(m c e h).strip
def nT(m:MT):MT:=λc e h=>(m c e h).strip
theorem vC{a: α}{h:PH}:(RV.ok a h).strip= .ok a h:=rfl
section
variable{X:Cx}{pg:Tb}{k:Nat}{E:XK}{a b c d e o:Ou}{es:List Ou}{ma mb mc md mo:ME}{mr:MA}{mt:MT}{ms mu:MS}{pos p pos' apos cpos spos:Pos}{x y:Str}{st:Pn}{body rest:List Pn}
theorem jx(h:JE X.c8 pg k e ma):lj X pg k E e (nX ma):=⟨λA=>let ⟨t,q,s⟩:=h.h A.a;⟨t,⟨q.h.up⟩,fun ρ h H e σ Q sm r o=>by
 unfold nX at o;cases z:ma (run pg k) e h with
 | ok v h'=>rw[z] at o;exact s ρ h H e σ Q v h' sm r z o
 | ex C us h'=>rw[z] at o;exact o.elim
 | no=>rw[z] at o;exact o.elim⟩⟩
theorem Nu(h:JA X.c8 pg k es mr):Ct X pg k E es (nA mr):=⟨λA=>let ⟨t,q,s⟩:=h.h A.a;⟨t,⟨q.h.up⟩,fun ρ h H e σ Q sm r o=>by
 unfold nA at o;cases z:mr (run pg k) e h with
 | ok v h'=>rw[z] at o;exact s ρ h H e σ Q v h' sm r z o
 | ex C us h'=>rw[z] at o;exact o.elim
 | no=>rw[z] at o;exact o.elim⟩⟩
theorem Nc(h:JS X.c8 pg k st ms):yi X pg k E st (nS ms):=⟨λA=>let ⟨t,q,s⟩:=h.h A.a;⟨t,⟨q.h.up⟩,fun ρ h H e σ D sm r o=>by
 unfold nS at o;cases z:ms (run pg k) e h with
 | ok v h'=>rw[z] at o;exact s ρ h H e σ D v h' sm r z o
 | ex C us h'=>rw[z] at o;exact o.elim
 | no=>rw[z] at o;exact o.elim⟩⟩
theorem yU:Ct X pg k E [] aA:=⟨λA=>⟨_,⟨gA⟩,fun ρ h H e σ Q sm r o=>o [] ρ H (.refl _ _) sm (bq.mpr rfl)⟩⟩
theorem wq(h1:lj X pg k E e ma)(h2:Ct X pg k E es mr)(hs:noStar e=true:=by rfl):Ct X pg k E (e::es) (ag ma mr):=⟨λA =>
 let ⟨_,q1,s1⟩:=h1.h A;let ⟨_,q2,s2⟩:=h2.h A;⟨_,⟨cR q1.h q2.h (aL hs)⟩,fun ρ h H e σ Q sm r o=>by
  unfold ag at o;refine s1 ρ h H e σ _ sm r ?_;cases z:ma (run pg k) e h with
  | ex C us h'=>rw[z] at o;exact o
  | no=>rw[z] at o;exact o
  | ok v h1 =>
   rw[z] at o
   refine λv' ρ1 H1 g1 z1 r1=>s2 ρ1 h1 H1 e σ _ z1 (r.gr g1) ?_
   change Kf _ _ _ _ _ ((mr (run pg k) e h1).bind _) at o
   cases y:mr (run pg k) e h1 with
   | ex C us h'=>rw[y] at o;exact dj.gr o g1
   | no=>rw[y] at o;exact o
   | ok vs h2 =>
    rw[y] at o
    exact λus ρ2 H2 g2 z2 r2=>o _ ρ2 H2 (g1.trans g2) z2 (aB.mpr ⟨v',us,rfl,rel.gr g2 _ _ r1,r2⟩)⟩⟩
theorem qm{E:XK}{cf:CF}{K:NH}{ta:TA}{rr:List V->Hp->VK->Prop}{f:List PV->PH->RV PV}(s1:Ml E cf K ta mr)(hr: ∀ ρ h H xs us Q,bN K ρ h H->ah K ρ H xs us->eP K ρ H Q E (f xs h)->rr us H Q):JR E cf K (fun σ H Q=>ta σ H λus H1=>rr us H1 Q) (λc e h=>(mr c e h).bind f):=fun ρ h H e σ Q sm r o=>by
 refine s1 ρ h H e σ _ sm r ?_;cases z:mr cf e h with
 | ex C us h'=>dsimp only at o;rw[z] at o;exact o
 | no=>dsimp only at o;rw[z] at o;exact o
 | ok xs h1 =>
  dsimp only at o;rw[z] at o
  refine λus ρ1 H1 g1 z1 r1=>hr ρ1 h1 H1 xs us Q z1 r1 ?_
  change eP _ _ _ _ _ (f xs h1) at o
  cases y:f xs h1 with
  | ex C us h'=>rw[y] at o;exact dj.gr o g1
  | no=>rw[y] at o;exact o
  | ok v h2=>rw[y] at o;exact cA.gr o g1
theorem CM{x1}(h:Ct X pg k E es mr):lj X pg k E (.Tuple es x1 pos) (cC mr):=⟨λA =>
 let ⟨_,q1,s1⟩:=h.h A;⟨_,qK q1,qm (rr:=λus H Q=>us.length<=NZ/\ ∀ p,H p=NI->Q (.ref p) (upd H p (.tup us))) s1 fun ρ h H xs us Q sm r o=>by
  unfold kN at o;split at o
  . rename_i hl;refine⟨by rw[<- r.len];exact hl,λp hp=>o _ ρ _ (Gr.ju hp) (sm.tup hp) ?_⟩;rw[rel];exact⟨p,us,rfl,aT,ah.gr (Gr.ju hp) _ _ r⟩
  . exact o.elim⟩⟩
theorem yT{f:String}{d:Df}(hf:pg.fns f=NG d)(hg:Gl X (NP f))(ha:Ct X pg k E (e::es) mr)(hdb:(NP f == ("__debug__" :Str))=false:=by decide)(he:noStar e=true:=by rfl)(hpl:es.all noStar=true:=by rfl) :
  lj X pg k E (.Call (.Name (NP f) p) (e::es) [] pos) (ai f mr):=⟨λA =>
 let ⟨_,q1,s1⟩:=ha.h A;⟨_,⟨HW A.pc.pass (A.a.defs f d hf) A.a.room hg (NS _) q1.h hdb (aL he) (dU hpl)⟩,qm (rr:=λus H Q=>ig X.K pg k f (us++[]) H Q E) s1 fun ρ h H xs us Q sm r o=>by
  rw[Ov];cases z:run pg k f xs h with
  | ok v h'=>rw[z] at o;exact .inl ⟨ρ,h,xs,v,h',sm,r,z,o⟩
  | ex C vs h'=>rw[z] at o;exact .inr ⟨ρ,h,xs,C,vs,h',sm,r,z,o⟩
  | no=>rw[z] at o;exact o.elim⟩⟩
def K4(f:List PV->PH->RV PV)(r:MA):ME:=λc e h=>(r c e h).bind λxs h=>(f xs h).strip
theorem Bp{T:String}{f:List PV->PH->RV PV}(hc:bO X.c8 pg k-> ∃ r,aP X.c8 (.type T) r/\uI X.c8.K r f)(hg:Gl X x)(hb:x∈dn)(hv:OX x=NG (.type T))(ha:Ct X pg k E (e::es) mr)
  (hn:x≠ "__name__" :=by decide) (hdb:(x == ("__debug__" :Str))=false:=by decide) (he:noStar e=true:=by rfl) (hpl:es.all noStar=true:=by rfl):lj X pg k E (.Call (.Name x p) (e::es) [] pos) (K4 f mr):=⟨λA =>
 let ⟨_,q1,s1⟩:=ha.h A;let ⟨r,q,s⟩:=hc A.a;⟨_,qT q.up hg (A.a.blt x hb) hv q1 hn hdb he hpl,qm (rr:=r) s1 fun ρ h H xs us Q sm rs o=>by
  cases z:f xs h with
  | ok v h'=>rw[z] at o;exact s ρ h H xs us Q v h' sm rs z o
  | ex C vs h'=>rw[z] at o;exact o.elim
  | no=>rw[z] at o;exact o.elim⟩⟩
theorem J7(hc:JT X.c8 pg k c mt)(ha:lj X pg k E a ma)(hb:lj X pg k E b mb):lj X pg k E (.IfExp c a b pos) (qY (nT mt) ma mb):=⟨λA=>by
 obtain⟨_,q0,s0⟩:=hc.h A.a;obtain⟨_,q1,s1⟩:=ha.h A;obtain⟨_,q2,s2⟩:=hb.h A;refine⟨_,oz ⟨q0.h.up⟩ q1 q2,fun ρ h H e σ Q sm r o=>?_⟩;unfold qY nT at o;cases z:mt (run pg k) e h with
 | ex C us h'=>rw[z] at o;exact o.elim
 | no=>rw[z] at o;exact o.elim
 | ok t h1 =>
  rw[z] at o
  refine s0 ρ h H e σ _ _ _ sm r z fun ρ1 H1 g1 z1=>?_
  have up: ∀{m:RV PV},eP X.K ρ H Q E m->eP X.K ρ1 H1 Q E m:=λ{m} o=>by
   cases m with
   | ok v h'=>exact cA.gr o g1
   | ex C us h'=>exact dj.gr o g1
   | no=>exact o
  cases t with
  | true=>exact s1 ρ1 h1 H1 e σ _ z1 (r.gr g1) (up o)
  | false=>exact s2 ρ1 h1 H1 e σ _ z1 (r.gr g1) (up o)⟩
end
end P3
end
section
open PySem PySem.W PyProof.Rows
namespace L2
open PySem PySem.Spec PyProof.Rows
theorem PI.up{X:Cx}{tg iter:Ou}{w:TI}(h:PI X.c8 tg iter w):PI X tg iter w:=λpins s σ H R I q =>
 Oj (h pins s σ H R (I.a0 _) q) (λv s1 z=>Oj z (λitv s2 ⟨it,fp,tn,J,H',e,I2,T,t0,f,r⟩=>⟨it,fp,tn,J,H',e,I2.bo,T,t0,f,r⟩) λ_ _ z=>z.elim) λ_ _ z=>z.elim
end L2
namespace P3
open PySem PySem.Spec PyProof.Rows L2
section
variable{X:Cx}{pg:Tb}{k:Nat}{E:XK}{a b c d e o:Ou}{es:List Ou}{ma mb mc md mo:ME}{mr:MA}{mt:MT}{ms mu:MS}{pos p pos' apos cpos spos:Pos}{x y:Str}{st:Pn}{body rest:List Pn}{g:MG}{mI:MI}{tg iter:Ou}
theorem jX.gr{K:NH}{ρ ρ1:List NQ}{H H1:Hp}{D:Ends}{m:RV Fl}(o:jX K ρ H D E m)(g:Gr ρ H ρ1 H1):jX K ρ1 H1 D E m:=by
 cases m with
 | ok v h'=>exact lI.gr o g
 | ex C us h'=>exact dj.gr o g
 | no=>exact o
theorem eP.gr{K:NH}{ρ ρ1:List NQ}{H H1:Hp}{Q:VK}{m:RV PV}(o:eP K ρ H Q E m)(g:Gr ρ H ρ1 H1):eP K ρ1 H1 Q E m:=by
 cases m with
 | ok v h'=>exact cA.gr o g
 | ex C us h'=>exact dj.gr o g
 | no=>exact o
theorem vT:kS X pg k E [] ee:=⟨λA=>⟨_,mM,fun ρ h H e σ D sm r o=>o σ ρ H (.refl _ _) sm r⟩⟩
theorem xt(h:yi X pg k E st ms):kS X pg k E [st] ms:=⟨λA=>let ⟨_,q,s⟩:=h.h A;⟨_,ng q,s⟩⟩
theorem uk(h1:yi X pg k E st ms)(h2:kS X pg k E rest mu):kS X pg k E (st::rest) (aj ms mu):=⟨λA=>let ⟨_,q1,s1⟩:=h1.h A;let ⟨_,q2,s2⟩:=h2.h A;⟨_,ke q1 q2,fun ρ h H e σ D sm r o=>by
 unfold aj at o;refine s1 ρ h H e σ _ sm r ?_;cases z:ms (run pg k) e h with
 | ex C us h'=>rw[z] at o;exact o
 | no=>rw[z] at o;exact o
 | ok f h1 =>
  rw[z] at o
  cases f with
  | nx e1=>exact fun σ1 ρ1 H1 g1 z1 r1=>s2 ρ1 h1 H1 e1 σ1 D z1 r1 (jX.gr o g1)
  | rt v=>exact o
  | bk e'=>exact o
  | ct e'=>exact o⟩⟩
theorem qj{cf:CF}{K:NH}{ta:TE}{rr:V->Hp->L2.St->Ends->Prop}{f:aG->PV->PH->RV Fl}(s1:JR E cf K ta ma)(hr: ∀ ρ h H v v' e σ D,bN K ρ h H->bM K ρ H e σ ->rel K ρ H v v'->jX K ρ H D E (f e v h)->rr v' H σ D):K5 E cf K (λD σ H=>ta σ H λv H1=>rr v H1 σ D) (λc e h=>(ma c e h).bind (f e)):=fun ρ h H e σ D sm r o=>by
 refine s1 ρ h H e σ _ sm r ?_;cases z:ma cf e h with
 | ex C us h'=>dsimp only at o;rw[z] at o;exact o
 | no=>dsimp only at o;rw[z] at o;exact o
 | ok v h1 =>
  dsimp only at o;rw[z] at o
  exact λv' ρ1 H1 g1 z1 r1=>hr ρ1 h1 H1 v v' e σ D z1 (r.gr g1) r1 (jX.gr o g1)
theorem BQ(ha:lj X pg k E e ma):yi X pg k E (.Return (NG e) pos) (aZ ma):=⟨λA=>let ⟨_,q1,s1⟩:=ha.h A;⟨_,wo q1,qj (f:=λ_ v h1=> .ok (.rt v) h1) (rr:=λv H1 _ D=>D.rt v H1) s1 fun ρ h H v v' e σ D sm r rv o=>o v' ρ H (.refl _ _) sm rv⟩⟩
theorem yQ{j:Nat}(hN:X.N.Nodup)(hi:X.N[j]?=NG x)(hx:Loc X.env.scope x)(he:lj X pg k E e ma)(hs:Pt e (NG (.Name x pos')) pos.line X.env=pure false:=by rfl)(hf:X.fn x=true\/X.env.scope.names.lookup x=NG .local:=by first | exact .inl rfl | exact .inr rfl | assumption) :
  yi X pg k E (.Assign [.Name x pos'] e pos) (ar ma (gN j)):=⟨λA=>let ⟨_,q1,s1⟩:=he.h A;⟨_,qR hN hi hx q1 hs hf,qj (f:=λe v h1=>(gN j v e h1).bind λe1 h2=> .ok (.nx e1) h2) (rr:=λv H1 σ D=>D.nx (σ.set j (NG v)) H1) s1 fun ρ h H v v' e σ D sm r rv o=>o _ ρ H (.refl _ _) sm (r.set j rv)⟩⟩
theorem Fq{A B:List Pn}(hc:JT X.c8 pg k c mt)(ha:kS X pg k E A ms)(hb:kS X pg k E B mu):yi X pg k E (.If c A B pos) (cZ (nT mt) ms mu):=⟨λZ=>by
 obtain⟨_,q0,s0⟩:=hc.h Z.a;obtain⟨_,q1,s1⟩:=ha.h Z;obtain⟨_,q2,s2⟩:=hb.h Z;refine⟨_,yb ⟨q0.h.up⟩ q1 q2,fun ρ h H e σ D sm r o=>?_⟩;unfold cZ nT at o;cases z:mt (run pg k) e h with
 | ex C us h'=>rw[z] at o;exact o.elim
 | no=>rw[z] at o;exact o.elim
 | ok t h1 =>
  rw[z] at o
  refine s0 ρ h H e σ _ _ _ sm r z fun ρ1 H1 g1 z1=>?_
  cases t with
  | true=>exact s1 ρ1 h1 H1 e σ _ z1 (r.gr g1) (jX.gr o g1)
  | false=>exact s2 ρ1 h1 H1 e σ _ z1 (r.gr g1) (jX.gr o g1)⟩
def fg(C:Nat)(names:List Str)(r:MA):MS:=λc e h=>(r c e h).bind λvs h1=>if vs.length=names.length then .ex C (names.zip vs) h1 else .no
theorem rM{K:NH}{ρ :List NQ}{H:Hp}: ∀{names:List Str}{vs:List PV}{us:List V},ah K ρ H vs us->Pd (λ(p:Str × PV) (q:Str × V)=>p.1=q.1/\rel K ρ H p.2 q.2) (names.zip vs) (names.zip us)
 | [],vs,us,r=> .nil
 | n::ns,[],us,r=>by rw[bq] at r;subst r;exact .nil
 | n::ns,v::vs,us,r=>by
  obtain⟨u,t,rfl,h1,h2⟩:=aB.mp r;exact .cons ⟨rfl,h1⟩ (rM h2)
theorem t8{C:Nat}{names:List Str}{rpos:Pos}(M:G4 X.prog X.w X.K X.mg x C names)(hg:Gl X x)(ha:JA X.c8 pg k (e::es) mr)(hdb:(x == ("__debug__" :Str))=false:=by decide)(he:noStar e=true:=by rfl)(hpl:es.all noStar=true:=by rfl) :
  yi X pg k E (.Raise (NG (.Call (.Name x p) (e::es) [] pos)) NI rpos) (fg C names (nA mr)):=⟨λA=>by
 obtain⟨_,q1,s1⟩:=ha.h A.a;have rm:bZ k X.A:=A.a.room;refine⟨_,⟨xS M (by have:=rm.dp;omega) rm.hd A.pc.pass hg q1.h.up hdb (aL he) (dU hpl)⟩,fun ρ h H e σ D sm r o=>?_⟩;unfold fg nA at o;cases z:mr (run pg k) e h with
 | ex C us h'=>rw[z] at o;exact o.elim
 | no=>rw[z] at o;exact o.elim
 | ok vs h1 =>
  rw[z] at o
  change jX _ _ _ _ _ (if vs.length=names.length then _ else _) at o
  split at o
  . rename_i hl;refine s1 ρ h H e σ _ _ _ sm r z λus ρ1 H1 g1 z1 r1=>⟨by rw[<- r1.len];exact hl,λdx od hd=>?_⟩
    exact o dx od _ ρ1 _ (g1.trans (Gr.ju hd)) (z1.tup hd) aT (rM (ah.gr (Gr.ju hd) _ _ r1))
  . exact o.elim⟩
def Hj(K:NH)(ρ :List NQ)(H:Hp)(R:It->Hp->Prop)(E:XK):RV kD->Prop
 | .ok it h'=> ∀ ρ' H' J,Gr ρ H ρ' H'->bN K ρ' h' H'->Lz K ρ' H' J it->R J H'
 | .ex C us h'=>dj K ρ H C us h' E
 | .no=>False
def M6(E:XK)(c:CF)(K:NH)(t:TI)(m:MI):Prop:= ∀ ρ h H e σ R,bN K ρ h H->bM K ρ H e σ ->Hj K ρ H R E (m c e h)->t σ H R
structure Dg(X:Cx)(pg:Tb)(k:Nat)(E:XK)(tg e:Ou)(m:MI):Prop where h:kE X pg k E-> ∃ t,QI X tg e t/\M6 E (run pg k) X.K t m
def nI(m:MI):MI:=λc e h=>(m c e h).strip
def nG(m:MG):MG:=λv e h=>(m v e h).strip
theorem Na(h:JI X.c8 pg k tg iter mI):Dg X pg k E tg iter (nI mI):=⟨λA=>let ⟨t,q,s⟩:=h.h A.a;⟨t,⟨q.h.up⟩,fun ρ h H e σ R sm r o=>by
 unfold nI at o;cases z:mI (run pg k) e h with
 | ok v h'=>rw[z] at o;exact s ρ h H e σ R v h' sm r z o
 | ex C us h'=>rw[z] at o;exact o.elim
 | no=>rw[z] at o;exact o.elim⟩⟩
theorem AS(ha:lj X pg k E o ma):Dg X pg k E tg o (gE ma):=⟨λA=>let ⟨_,q1,s1⟩:=ha.h A;⟨_,⟨xi q1.h⟩,fun ρ h H e σ R sm r oo=>by
 unfold gE at oo;cases z:ma (run pg k) e h with
 | ex C us h'=>rw[z] at oo;exact s1 ρ h H e σ _ sm r (by rw[z];exact oo)
 | no=>rw[z] at oo;exact oo.elim
 | ok x h1 =>
  rw[z] at oo
  change Hj _ _ _ _ _ (jW x h1) at oo
  cases y:jW x h1 with
  | ok it h2 =>
   rw[y] at oo
   exact vN (c:=run pg k) (ma:=ma) (fun ρ h H e σ Q v h' s r q P=>s1 ρ h H e σ Q s r (by rw[q];exact P)) ρ h H e σ R it h2 sm r (by unfold gE;rw[z];exact y) oo
  | ex C us h' =>
   exfalso
   unfold jW at y
   split at y<;>first | injection y | (split at y<;>injection y)
  | no=>rw[y] at oo;exact oo.elim⟩⟩
abbrev nb(X:Cx)(vars:List Str)(scope:Q5)(cl:List (Str × NQ))(C:NQ)(s₀ :NO)(H₀ :Hp)(ex:List NQ)(pn:List (NQ × Obj)):Cx:=L2.bQ X.c8 vars scope cl C s₀ H₀ ex pn
theorem BZ{cf:CF}{K:NH}{wi:TI}{tG:TG}{tt:TT}{te:TE}{n:Nat}(s1:M6 E cf K wi mI)(s2:SG K tG g)(s3:ST cf K tt mt)(s4:JR E cf K te ma):JR E cf K (G9 n wi tG tt te) (d5 n mI (nG g) (nT mt) ma):=fun ρ h H e σ Q s r o=>by
 unfold d5 at o;refine s1 ρ h H e σ _ s r ?_;cases z:mI cf e h with
 | ex C us h'=>rw[z] at o;exact o
 | no=>rw[z] at o;exact o
 | ok it h1 =>
  rw [z] at o
  change eP _ _ _ _ _ ((eO it _ it.items [] h1).bind _) at o
  refine fun ρ1 H1 J g1 z1 w1=>?_
  refine ⟨λi m us H'=> ∃ ρ' h3 zs,Gr ρ1 H1 ρ' H'∧bN K ρ' h3 H'∧ah K ρ' H' zs us∧i<=it.items.length∧m=it.items.length - i∧eP K ρ' H' Q E ((eO it (bp n (nG g) (nT mt) ma cf e) (it.items.drop i) zs h3).bind λys h2=> .ok (.ref h2.length) (h2++[.lst ys])),⟨_, ρ1,h1,[],.refl _ _,z1,bq.mpr rfl,OU _,rfl,eP.gr o g1⟩,?_⟩
  rintro i m us H2 ⟨ρ2,h3,zs,g2,z2,r2,hi,rfl,o2⟩
  cases hx:it.items[i]? with
  | none =>
   have hl:it.items.length<=i:=Q7.mp hx
   rw[PZ hl,eO] at o2
   split at o2
   . rename_i hf;exact .inl ⟨(w1 i ρ2 _ H2 g2 z2 hf).2 (by omega),λp hp=>dJ z2 r2 o2 p hp⟩
   . exact o2.elim
  | some x =>
   have hlt:i < it.items.length:=(NN.mp hx).1
   have hd:it.items.drop i=x::it.items.drop (i+1):=by
    rw[Q8 hlt,(NN.mp hx).2]
   rw[hd,eO] at o2
   split at o2
   . rename_i hf;obtain⟨go,yl⟩:=(w1 i ρ2 _ H2 g2 z2 hf.1).1 x hx;refine .inr ⟨go,by rw[<- r2.len];exact hf.2,λv H3 hy=>?_⟩;obtain⟨ρ3,g3,z3,r3⟩:=yl v H3 hy;have o3:=eP.gr o2 g3;unfold bp at o3;cases y:g x (e++NM n NI) h3 with
     | ex C us h'=>unfold nG at o3;rw[y] at o3;exact o3.elim
     | no=>unfold nG at o3;rw[y] at o3;exact o3.elim
     | ok e4 h5 =>
      rw[show nG g x (e++NM n NI) h3= .ok e4 h5 from by unfold nG;rw[y];rfl] at o3
      refine s2 ρ3 h3 H3 _ _ _ x v e4 h5 z3 (((r.gr (g1.trans (g2.trans g3)))).more n) r3 y fun σ4 ρ4 H4 g4 z4 r4=>?_
      have o4:=eP.gr o3 g4
      change eP _ _ _ _ _ ((((nT mt cf e4 h5).bind _).bind _).bind _) at o4
      cases w:mt cf e4 h5 with
      | ex C us h'=>unfold nT at o4;rw[w] at o4;exact o4.elim
      | no=>unfold nT at o4;rw[w] at o4;exact o4.elim
      | ok b h6 =>
       rw[show nT mt cf e4 h5= .ok b h6 from by unfold nT;rw[w];rfl] at o4
       refine s3 ρ4 h5 H4 e4 σ4 _ b h6 z4 r4 w fun ρ5 H5 g5 z5=>?_
       have gg:=((g2.trans g3).trans g4).trans g5
       have o5:=eP.gr o4 g5
       cases b with
       | false=>exact ⟨it.items.length - (i+1),by omega, ρ5,_,zs,gg,z5,ah.gr ((g3.trans g4).trans g5) _ _ r2,hlt,rfl,o5⟩
       | true =>
        change eP _ _ _ _ _ ((((ma cf e4 h6).bind _).bind _).bind _) at o5
        refine s4 ρ5 h6 H5 e4 σ4 _ z5 (r4.gr g5) ?_
        cases u:ma cf e4 h6 with
        | ex C us h'=>rw[u] at o5;exact o5
        | no=>rw [u] at o5;exact o5
        | ok yv h7 =>
         rw [u] at o5
         exact λy' ρ6 H6 g6 z6 r6=>⟨it.items.length - (i+1),by omega, ρ6,_,zs++[yv],gg.trans g6,z6,(ah.gr (((g3.trans g4).trans g5).trans g6) _ _ r2).app (ah.one r6),hlt,rfl,eP.gr o5 g6⟩
   . exact o2.elim
theorem kE.bQ{EE:NJ->NO->Prop}(A:kE X pg k E)(vars:List Str)(scope:Q5)(cl:List (Str × NQ))(C:NQ)(s₀ :NO)(H₀ :Hp)(ex:List NQ)(pn:List (NQ × Obj))(hp:dY ((bQ X vars scope cl C s₀ H₀ ex pn).a0 EE) E):kE ((bQ X vars scope cl C s₀ H₀ ex pn).a0 EE) pg k E :=
 ⟨A.a.bQ vars scope cl C s₀ H₀ ex pn,hp,A.own⟩
noncomputable def Lw(E:XK)(c:CF)(K:NH)(m:ME):TE:=fun σ H Q=> ∃ ρ h e,bN K ρ h H/\bM K ρ H e σ /\eP K ρ H Q E (m c e h)
theorem lj.yj(j:lj X pg k E e ma)(A:kE X pg k E):QE X e (Lw E (run pg k) X.K ma) :=
 let ⟨_,q,s⟩:=j.h A;⟨λpins st σ H Q I ⟨ρ,h,e,a,b,c⟩=>q.h pins st σ H Q I (s ρ h H e σ Q a b c)⟩
variable{scope:Q5}{ifs:List Ou}{tG:TG}{py:Pos}
theorem vI(vars:List Str)(hkind:scope.kind= .function)(hlc:da scope.names X.env.scope.names X.N vars=true)(hi:Dg X pg k E tg iter mI)
  (hb: ∀ cl C s₀ H₀ ex pn EE,(bO X.c8 pg k->QG (P3.nb X vars scope cl C s₀ H₀ ex pn) tg tG)/\JF (P3.nb X vars scope cl C s₀ H₀ ex pn) pg k ifs mt/\lj ((L2.bQ X vars scope cl C s₀ H₀ ex pn).a0 EE) pg k E e ma) (hG:GC X.K X.N.length tG g)
  (hs: ∀ x,Oq iter X.env x=pure x:=by intro _;rfl):lj X pg k E (.ListComp e [⟨tg,iter,ifs,0⟩] scope pos) (d5 vars.length mI (nG g) (nT mt) ma):=⟨λA =>
 let ⟨_,q1,s1⟩:=hi.h A
 ⟨_,⟨k4 vars A.a.calm A.pc A.own hkind hlc q1.h (λcl C s₀ H₀ ex pn EE hp=>let ⟨h1,h2,h3⟩:=hb cl C s₀ H₀ ex pn EE;⟨PG.up (X:=(L2.bQ X vars scope cl C s₀ H₀ ex pn).a0 EE) (h1 A.a).h,PF.up (X:=(L2.bQ X vars scope cl C s₀ H₀ ex pn).a0 EE) (t:=GZ (run pg k) X.K mt) (show PF (P3.nb X vars scope cl C s₀ H₀ ex pn) ifs (GZ (run pg k) X.K mt) from(h2.yj (A.a.bQ vars scope cl C s₀ H₀ ex pn)).h),(show PE ((L2.bQ X vars scope cl C s₀ H₀ ex pn).a0 EE) e (Lw E (run pg k) X.K ma) from(h3.yj (A.bQ vars scope cl C s₀ H₀ ex pn hp)).h)⟩) hG.gk hs⟩,BZ s1 hG.sg sF fun ρ h H e σ Q s r o=>⟨ρ,h,e,s,r,o⟩⟩⟩
theorem t9(vars:List Str)(i:Nat)(hkind:scope.kind= .function)(hlc:da scope.names X.env.scope.names X.N vars=true)(hN:X.N.Nodup)(hiy:X.N[i]?=NG y)(hy:Loc X.env.scope y)(hi:Dg X pg k E tg iter mI)
  (hb: ∀ cl C s₀ H₀ ex pn EE,(bO X.c8 pg k->QG (P3.nb X vars scope cl C s₀ H₀ ex pn) tg tG)/\JF (P3.nb X vars scope cl C s₀ H₀ ex pn) pg k ifs mt/\lj ((L2.bQ X vars scope cl C s₀ H₀ ex pn).a0 EE) pg k E e ma) (hG:GC X.K X.N.length tG g)
  (hsw:Pt (.ListComp e [⟨tg,iter,ifs,0⟩] scope pos) (NG (.Name y py)) spos.line X.env=pure true:=by rfl) (hs: ∀ x,Oq iter X.env x=pure x:=by intro _;rfl)
  (hf:X.fn y=true\/X.env.scope.names.lookup y=NG .local:=by first | exact .inl rfl | exact .inr rfl | assumption) :
  yi X pg k E (.Assign [.Name y py] (.ListComp e [⟨tg,iter,ifs,0⟩] scope pos) spos) (ar (d5 vars.length mI (nG g) (nT mt) ma) (gN i)):=⟨λA =>
 let ⟨_,q1,s1⟩:=hi.h A
 ⟨_,⟨kZ vars i A.a.calm A.pc A.own hkind hlc hN hiy hy q1.h (λcl C s₀ H₀ ex pn EE hp=>let ⟨h1,h2,h3⟩:=hb cl C s₀ H₀ ex pn EE;⟨PG.up (X:=(L2.bQ X vars scope cl C s₀ H₀ ex pn).a0 EE) (h1 A.a).h,PF.up (X:=(L2.bQ X vars scope cl C s₀ H₀ ex pn).a0 EE) (t:=GZ (run pg k) X.K mt) (show PF (P3.nb X vars scope cl C s₀ H₀ ex pn) ifs (GZ (run pg k) X.K mt) from(h2.yj (A.a.bQ vars scope cl C s₀ H₀ ex pn)).h),(show PE ((L2.bQ X vars scope cl C s₀ H₀ ex pn).a0 EE) e (Lw E (run pg k) X.K ma) from(h3.yj (A.bQ vars scope cl C s₀ H₀ ex pn hp)).h)⟩) hG.gk hsw hs hf⟩,
  qj (ma:=d5 vars.length mI (nG g) (nT mt) ma) (f:=λe v h1=>(gN i v e h1).bind λe1 h2=> .ok (.nx e1) h2) (rr:=λv H1 σ D=>D.nx (σ.set i (NG v)) H1) (BZ s1 hG.sg sF fun ρ h H e σ Q s r o=>⟨ρ,h,e,s,r,o⟩) fun ρ h H v v' e σ D sm r rv o=>o _ ρ H (.refl _ _) sm (r.set i rv)⟩⟩
end
section
variable{X:Cx}{pg:Tb}{k:Nat}{E:XK}{e iter:Ou}{ma:ME}{mt:MT}{mI:MI}{scope:Q5}{ifs:List Ou}{pos spos vp py:Pos}{v y:Str}{i m:Nat}
theorem Dy(hi:Dg X pg k E (.Name v vp) iter mI)
  (hb: ∀ cl C s₀ H₀ ex pn EE,(bO X.c8 pg k->QG (nb X [v] scope cl C s₀ H₀ ex pn) (.Name v vp) (cL m))/\JF (nb X [v] scope cl C s₀ H₀ ex pn) pg k ifs mt/\lj ((L2.bQ X [v] scope cl C s₀ H₀ ex pn).a0 EE) pg k E e ma)
  (hm:SR X.N.length m=true:=by rfl) (hkind:scope.kind= .function:=by rfl) (hlc:da scope.names X.env.scope.names X.N [v]=true:=by rfl) (hs: ∀ x,Oq iter X.env x=pure x:=by intro _;rfl) :
  lj X pg k E (.ListComp e [⟨.Name v vp,iter,ifs,0⟩] scope pos) (d5 1 mI (nG (gN m)) (nT mt) ma):=vI [v] hkind hlc hi hb (GC.of hm) hs
theorem zw(hN:X.N.Nodup)(hi:Dg X pg k E (.Name v vp) iter mI)
  (hb: ∀ cl C s₀ H₀ ex pn EE,(bO X.c8 pg k->QG (nb X [v] scope cl C s₀ H₀ ex pn) (.Name v vp) (cL m))/\JF (nb X [v] scope cl C s₀ H₀ ex pn) pg k ifs mt/\lj ((L2.bQ X [v] scope cl C s₀ H₀ ex pn).a0 EE) pg k E e ma)
  (hm:SR X.N.length m=true:=by rfl) (hiy:X.N[i]?=NG y:=by rfl) (hy:Loc X.env.scope y:=by first | exact RX rfl | exact RL rfl) (hkind:scope.kind= .function:=by rfl) (hlc:da scope.names X.env.scope.names X.N [v]=true:=by rfl)
  (hsw:Pt (.ListComp e [⟨.Name v vp,iter,ifs,0⟩] scope pos) (NG (.Name y py)) spos.line X.env=pure true:=by rfl) (hs: ∀ x,Oq iter X.env x=pure x:=by intro _;rfl)
  (hf:X.fn y=true\/X.env.scope.names.lookup y=NG .local:=by first | exact .inl rfl | exact .inr rfl | assumption) :
  yi X pg k E (.Assign [.Name y py] (.ListComp e [⟨.Name v vp,iter,ifs,0⟩] scope pos) spos) (ar (d5 1 mI (nG (gN m)) (nT mt) ma) (gN i)):=t9 [v] i hkind hlc hN hiy hy hi hb (GC.of hm) hsw hs hf
end
noncomputable def Fl.Fh(i:Nat):Fl->Fl
 | .nx e=> .nx (e.set i NI)
 | .bk e=> .bk (e.set i NI)
 | .ct e=> .ct (e.set i NI)
 | .rt v=> .rt v
def wG(tab:List Nat)(i n:Nat)(mb mh:MS):MS:=λc e h=>match mb c e h with
 | .ok f h'=> .ok f h'
 | .ex C us h'=>if C∈tab then(mh c ((NM n NI).set i (NG (.ref h'.length))) (h'++[.exc C us])).bind λf h2=> .ok (f.Fh i) h2 else .no
 | .no=> .no
structure Iy(K:NH)(mg:Str->Option NJ)(cn:Str)(L:Nat)(tab:List Nat):Prop where
 gl:mg cn=NG (.ref L)
 sup:zK K L
 sub: ∀ C∈tab,O0 K C (.ref L)=NG true
section
variable{X:Cx}{pg:Tb}{k:Nat}{cn n:Str}{L i:Nat}{tab:List Nat}{body suite:List Pn}{b₀ :Pn}{np hpos pos:Pos}{mb mh:MS}
theorem bM.Fh{K:NH}{ρ :List NQ}{H:Hp}{e:aG}{σ :L2.St}(r:bM K ρ H e σ)(i:Nat):bM K ρ H (e.set i NI) (σ.set i NI):=by
 refine⟨by simp[r.len],λj v q=>?_⟩;by_cases z:j=i
 . subst z;rcases Qu j e.length with y | y
   . rw[OO y] at q;cases q
   . rw[QJ (by simpa using y)] at q;cases q
 . rw[OP (PX z)] at q;obtain⟨v',a,b⟩:=r.get j v q;exact⟨v',by rw[OP (PX z)];exact a,b⟩
theorem BE(Z:Iy X.K X.mg cn L tab)(hN:X.N.Nodup)(hb: ∀ pn EE E,kS (kA X pn EE) pg k E body mb)(hh: ∃ t,(∀ x,yf (hand X x) (b₀ ::suite) t)/\ ∀ c,SS c X.K t mh)
  (hl0:X.stack=X.env::X.outer:=by rfl) (hf0:X.env.frame=NG X.env.locals:=by rfl) (hi:X.N[i]?=NG n:=by rfl) (hk:X.env.kindOf n=NG .local:=by rfl) (hg:Gl X cn:=by rfl) (hdb:(cn == ("__debug__" :Str))=false:=by decide) :
  JS X pg k (.Try body [.ExceptHandler (NG (.Name cn np)) (NG n) (b₀ ::suite) hpos] [] [] pos) (wG tab i X.N.length mb mh):=⟨λA=>by
 obtain⟨th,qh,sh⟩:=hh
 let tb:XK->TS:=λE D σ H=> ∃ ρ h e,bN X.K ρ h H/\bM X.K ρ H e σ /\jX X.K ρ H D E (mb (run pg k) e h)
 refine⟨_,⟨As (tb:=tb) hl0 hf0 hN hi hk hg Z.gl Z.sup (λx=>(qh x).h) (λpn EE E pc _=>?_) hdb⟩,fun ρ h H e σ D f h' s r q P=>?_⟩
 . have ax:kE (kA X pn EE) pg k E:=⟨⟨A.room,A.calm,λ_ _ z=>z,A.defs,A.blt,A.con,A.vd,A.ct,A.mt⟩,pc,.inr ⟨X.env,X.outer,X.env.locals,hl0,hf0,hf0⟩⟩
   obtain⟨t,qt,st⟩:=(hb pn EE E).h ax;exact λpins s σ H D I ⟨ρ,h,e,sm,r,o⟩=>qt.h pins s σ H D I (st ρ h H e σ D sm r o)
 . unfold wG at q;cases z:mb (run pg k) e h with
   | no=>rw[z] at q;nomatch q
   | ok f0 h0 =>
    rw[z] at q
    cases q
    exact⟨E0,⟨ρ,h,e,s,r,by rw[z];exact P⟩,λ_ _ _ w=>w.elim⟩
   | ex C us h0 =>
    rw[z] at q
    dsimp only at q
    split at q
    . rename_i ht;refine ⟨λcv dv H'=> ∃ dx od fws ρ',cv= .ref C∧dv=NG dx∧Gr ρ H ρ' H'∧bN X.K ρ' h0 H'∧H' dx=NG (.dw od (.xd fws))∧Pd (λ(p:Str × PV) (q:Str × V)=>p.1=q.1∧rel X.K ρ' H' p.2 q.2) us fws,⟨ρ,h,e,s,r,by rw [z];exact λdx od fws ρ' H' g s' hd pr=>⟨dx,od,fws, ρ',rfl,rfl,g,s',hd,pr⟩⟩,?_⟩;rintro _ _ H' ⟨dx,od,fws, ρ',rfl,rfl,g,s',hd,pr⟩;refine ⟨C,dx,od,fws,rfl,rfl,Z.sub C ht,hd,λx oe av hx c1 c2 c3=>?_⟩;obtain ⟨f1,h1,e1,q1⟩:=bind_eq.mp q;cases q1;have gx:Gr ρ' H' (ρ'++[x]) (upd H' x (.dw oe (.ext λ_=>True))):=Gr.new hx [x];have sx:bN X.K (ρ'++[x]) (h0++[.exc C us]) (upd H' x (.dw oe (.ext λ_=>True))):=s'.new hx ⟨fws,⟨oe,dx,od,av,aT,c1,c2,c3,by rw[aq (ao hd hx)];exact hd⟩,Paired.dS gx pr⟩;have rx:bM X.K (ρ'++[x]) (upd H' x (.dw oe (.ext λ_=>True))) ((NM X.N.length NI).set i (NG (.ref h0.length))) ((NM X.N.length NI).set i (NG (.ref x))):=by
       refine bM.set ⟨by simp,λj v e=>?_⟩ i ?_
       . rw[Pk] at e;split at e<;>cases e
       . rw[rel];exact⟨x,by rw[<- s'.len];simp,rfl⟩
      refine sh (run pg k) _ _ _ _ _ _ _ _ sx rx e1 ?_;have P':=P.gr (g.trans gx);cases f1 with
      | nx e2=>exact fun σ2 ρ2 H2 g2 s2 r2=>P' _ ρ2 H2 g2 s2 (r2.Fh i)
      | bk e2=>exact fun σ2 ρ2 H2 g2 s2 r2=>P' _ ρ2 H2 g2 s2 (r2.Fh i)
      | ct e2=>exact fun σ2 ρ2 H2 g2 s2 r2=>P' _ ρ2 H2 g2 s2 (r2.Fh i)
      | rt v=>exact P'
    . nomatch q⟩
end
def g9(tab:List (Nat × Bool))(v:PV)(h:PH):RV PV:=match v with
 | .ref n=>(match h[n]? with
  | some (.exc C _)=>(match tab.lookup C with
   | some b=> .ok (.bl b) h
   | none=> .no)
  | _=> .no)
 | _=> .no
def Fw(tab:List Nat)(f:Str)(v:PV)(h:PH):RV PV:=match v with
 | .ref n=>(match h[n]? with
  | some (.exc C fs)=>if C∈tab then(match fs.lookup f with
   | some y=> .ok y h
   | none=> .no) else .no
  | _=> .no)
 | _=> .no
def uH(K:NH)(tab:List (Nat × Bool))(cs:List NJ):Prop:= ∀ C b,tab.lookup C=NG b->HR K C/\P7 K (.ref C) cs=NG b
def K9(K:NH)(tab:List Nat)(f:Str):Prop:= ∀ C∈tab,gZ K C/\Oc K (.ref C) f=NG NI
section
variable{c:CF}{K:NH}{ta:TE}{ma:ME}{tab:List (Nat × Bool)}{tb:List Nat}{cv:V}{cval:NJ}{cvs:List V}{cs:List NJ}{f:Str}
theorem xW{ρ :List NQ}{H:Hp}{h:PH}{n C:Nat}{fs:List (Str × PV)}{v':V}(s:bN K ρ h H)(e:h[n]?=NG (.exc C fs))(r:rel K ρ H (.ref n) v'): ∃ x fws,v'= .ref x/\Jb H x C fws/\RF K ρ H fs fws:=by
 rw[rel] at r;obtain⟨a,ea,rfl⟩:=r;obtain⟨fws,t,p⟩:=s.ob n _ a e ea;exact⟨a,fws,rfl,t,p⟩
theorem vj{ρ :List NQ}{H:Hp}{h h':PH}{v w:PV}{v':V}(hk:uH K tab cs)(s:bN K ρ h H)(r:rel K ρ H v v')(q:g9 tab v h= .ok w h'): ∃ b,w= .bl b/\h'=h/\GJ K H cs v' b:=by
 unfold g9 at q;split at q
 . split at q
   . rename_i n _ C fs e;split at q
     . rename_i b l;cases q;obtain⟨x,fws,rfl,t,p⟩:=xW s e r;obtain⟨h1,h2⟩:=hk C b l;exact⟨b,rfl,rfl,x,C,fws,rfl,t,h1,h2⟩
     . nomatch q
   . nomatch q
 . nomatch q
theorem rT(s1:SE c K ta ma)(hk:uH K tab [cval]):SE c K (Aj (IP K cv cval) (jd ta (jd (tC cv) vz))) (nM (g9 tab) ma):=fun ρ h H e σ Q v h' s r q P=>by
 obtain⟨x,h1,e1,q⟩:=bind_eq.mp q;refine s1 ρ h H e σ _ x h1 s r e1 λx' ρ1 H1 g1 z1 r1=>?_;obtain⟨b,rfl,rfl,a⟩:=vj hk z1 r1 q;exact⟨x',b,rfl,a,P _ ρ1 H1 g1 z1 (by rw[rel])⟩
noncomputable def MJ(vs:List V):TA:=λ_ H Q=>Q vs H
theorem Bt(s1:SE c K ta ma)(hk:uH K tab cs)(hl:cvs.length<=NZ):SE c K (Aj (B7 K cvs cs) (jd ta (jd (Bf (MJ cvs)) vz))) (nM (g9 tab) ma):=fun ρ h H e σ Q v h' s r q P=>by
 obtain⟨x,h1,e1,q⟩:=bind_eq.mp q;refine s1 ρ h H e σ _ x h1 s r e1 λx' ρ1 H1 g1 z1 r1=>⟨hl,λp hp=>?_⟩
 have g2:Gr ρ1 H1 ρ1 (upd H1 p (.tup cvs)):=Gr.ju hp;obtain⟨b,rfl,rfl,a⟩:=vj hk (z1.tup (o:= .tup cvs) hp) (rel.gr g2 _ _ r1) q;exact⟨x',p,b,rfl,aT,a,P _ ρ1 _ (g1.trans g2) (z1.tup hp) (by rw[rel])⟩
theorem A8(s1:SE c K ta ma)(hk:K9 K tb f):SE c K (Cv K ta f) (nM (Fw tb f) ma):=fun ρ h H e σ Q v h' s r q P=>by
 obtain⟨x,h1,e1,q⟩:=bind_eq.mp q;refine s1 ρ h H e σ _ x h1 s r e1 λx' ρ1 H1 g1 z1 r1=>?_;unfold Fw at q;split at q
 . split at q
   . rename_i n _ C fs e;split at q
     . rename_i hm;split at q
       . rename_i y l;cases q;obtain⟨a,fws,rfl,t,p⟩:=xW z1 e r1;obtain⟨y',l1,l2⟩:=(RF.look p).1 _ l;exact⟨a,C,fws,y',rfl,t,(hk C hm).1,(hk C hm).2,l1,P y' ρ1 H1 g1 z1 l2⟩
       . nomatch q
     . nomatch q
   . nomatch q
 . nomatch q
theorem DQ{i:Nat}:SE c K (wU i) (aa i):=fun ρ h H e σ Q v h' s r q P=>by
 unfold aa at q;split at q
 . cases q;obtain⟨v',e1,e2⟩:=r.get i v (by assumption);exact⟨v',e1,P v' ρ H (.refl _ _) s e2⟩
 . nomatch q
theorem EA:SA c K vz aA:=fun ρ h H e σ Q v h' s r q P=>by cases q;exact P [] ρ H (.refl _ _) s (bq.mpr rfl)
theorem Bd{tr:TA}{mr:MA}(s1:SE c K ta ma)(s2:SA c K tr mr):SA c K (jd ta tr) (ag ma mr):=fun ρ h H e σ Q v h' s r q P=>by
 obtain⟨x,h1,e1,q⟩:=bind_eq.mp q;obtain⟨xs,h2,e2,q⟩:=bind_eq.mp q;cases q;refine s1 ρ h H e σ _ _ _ s r e1 λx' ρ1 H1 g1 z1 r1=>?_;refine s2 ρ1 h1 H1 e σ _ _ _ z1 (r.gr g1) e2 λus ρ2 H2 g2 z2 r2=>?_;exact P _ ρ2 H2 (g1.trans g2) z2 (aB.mpr ⟨x',us,rfl,rel.gr g2 _ _ r1,r2⟩)
theorem Dl{tr:TA}{mr:MA}(s1:SA c K tr mr):SE c K (Bf tr) (cC mr):=fun ρ h H e σ Q v h' s r q P=>by
 obtain⟨xs,h1,e1,q⟩:=bind_eq.mp q;obtain⟨hl,q⟩:=eg.mp q;cases q;refine s1 ρ h H e σ _ _ _ s r e1 λus ρ1 H1 g1 z1 r1=>⟨by rw[<- r1.len];exact hl,λp hp=>?_⟩
 refine P _ ρ1 _ (g1.trans (Gr.ju hp)) (z1.tup hp) ?_;rw[rel];exact⟨p,us,rfl,aT,ah.gr (Gr.ju hp) _ _ r1⟩
theorem EL{j:Nat}(s1:SE c K ta ma):SS c K (vH ta (cL j)) (ar ma (gN j)):=fun ρ h H e σ D f h' s r q P=>by
 obtain⟨v,h1,e1,q⟩:=bind_eq.mp q;obtain⟨e2,h2,e3,q⟩:=bind_eq.mp q;cases q;cases e3;exact s1 ρ h H e σ _ v _ s r e1 λv' ρ1 H1 g1 z1 r1=>P _ ρ1 H1 g1 z1 ((r.gr g1).set j r1)
end
structure qf(X:Cx)(e:Ou)(m:ME):Prop where h: ∃ t,(∀ x,QE (hand X x) e t)/\ ∀ c,SE c X.K t m
structure H9(X:Cx)(e:List Ou)(m:MA):Prop where h: ∃ t,(∀ x,QA (hand X x) e t)/\ ∀ c,SA c X.K t m
structure B6(X:Cx)(e:Ou)(m:MT):Prop where h: ∃ t,(∀ x,QT (hand X x) e t)/\ ∀ c,ST c X.K t m
structure El(X:Cx)(e:Ou)(m:MT):Prop where h: ∃ t,(∀ x,QW (hand X x) e t)/\ ∀ c,ST c X.K t m
structure Kg(X:Cx)(s:Pn)(m:MS):Prop where h: ∃ t,(∀ x,QS (hand X x) s t)/\ ∀ c,SS c X.K t m
structure o1(X:Cx)(s:List Pn)(m:MS):Prop where h: ∃ t,(∀ x,yf (hand X x) s t)/\ ∀ c,SS c X.K t m
section
variable{X:Cx}{e a b d:Ou}{es:List Ou}{ma mb:ME}{mr:MA}{mt mu:MT}{ms mv:MS}{pos p cp tp:Pos}{x f cn:Str}{st:Pn}{rest:List Pn}{tab:List (Nat × Bool)}{tb:List Nat}{C:Nat}{T:String}
theorem EM(i:Nat)(hN:X.N[i]?=NG x:=by rfl)(hv:FK X.env.scope x:=by first | exact RX rfl | exact RL (RX rfl))(hd:(x == ("__debug__" :Str))=false:=by decide)(hcd:(x == ("__classdict__" :Str))=false:=by decide):qf X (.Name x pos) (aa i):=⟨_,λ_=>⟨nr hN hv hd hcd⟩,λ_=>DQ⟩
theorem CQ{n:Str}{j:Nat}:qf X (.Constant (.str n) j pos) (eC (.str n)):=⟨_,λ_=>vJ,λ_=>qi fun ρ H=>by rw[rel]⟩
theorem zo:H9 X [] aA:=⟨_,λ_=>⟨gA⟩,λ_=>EA⟩
theorem xr(h1:qf X e ma)(h2:H9 X es mr)(hs:noStar e=true:=by rfl):H9 X (e::es) (ag ma mr):=let ⟨_,q1,s1⟩:=h1.h;let ⟨_,q2,s2⟩:=h2.h;⟨_,λx=>⟨cR (q1 x).h (q2 x).h (aL hs)⟩,λc=>Bd (s1 c) (s2 c)⟩
theorem D9{j:Nat}(h:H9 X es mr):qf X (.Tuple es j pos) (cC mr):=let ⟨_,q,s⟩:=h.h;⟨_,λx=>qK (q x),λc=>Dl (s c)⟩
theorem AF(hk:uH X.K tab [.ref C])(hc:X.mg cn=NG (.ref C))(hm:X.mg "isinstance" =NI)(he:qf X e ma)(hg:Gl X "isinstance" :=by rfl)(hcn:Gl X cn:=by rfl)(hs:noStar e=true:=by rfl)(hdb:(cn == ("__debug__" :Str))=false:=by decide) :
  qf X (.Call (.Name "isinstance" p) [e,.Name cn cp] [] pos) (nM (g9 tab) ma):=let ⟨_,q,s⟩:=he.h
 ⟨_,λx=>⟨ie (lO (cv:= .ref C) (λu r=>r)) hg hm TJ (cR (q x).h (cR (mC hcn hc (v:= .ref C) rfl hdb) gA) (aL hs)) (by decide) (by decide) (aL hs) rfl⟩,λc=>rT (s c) hk⟩
theorem BL(hk:uH X.K tab [.type T])(hn:X.mg cn=NI)(hv:OX cn=NG (.type T))(hm:X.mg "isinstance" =NI)(he:qf X e ma)(hg:Gl X "isinstance" :=by rfl)(hcn:Gl X cn:=by rfl)(hs:noStar e=true:=by rfl)(hdb:(cn == ("__debug__" :Str))=false:=by decide)(hnn:cn≠ "__name__" :=by decide) :
  qf X (.Call (.Name "isinstance" p) [e,.Name cn cp] [] pos) (nM (g9 tab) ma):=let ⟨_,q,s⟩:=he.h
 ⟨_,λx=>⟨ie (lO (cv:= .ty T) (λu r=>r)) hg hm TJ (cR (q x).h (cR (q8 hcn hn hv (v:= .ty T) rfl hnn hdb) gA) (aL hs)) (by decide) (by decide) (aL hs) rfl⟩,λc=>rT (s c) hk⟩
def xb(X:Cx):List Ou->List Nat->Prop
 | [],[]=>True
 | .Name n _::r,C::t=>Gl X n/\X.mg n=NG (.ref C)/\(n == ("__debug__" :Str))=false/\xb X r t
 | _,_=>False
theorem uO{X:Cx}{y:Nat}: ∀{es:List Ou}{Cs:List Nat},xb X es Cs->PA (hand X y) es (MJ (Cs.map V.ref))
 | [],[],_=>gA
 | .Name n q::r,C::t,h=>cR (mC (X:=hand X y) (v:= .ref C) h.1 h.2.1 rfl h.2.2.1) (uO h.2.2.2)
theorem lH: ∀{Cs:List Nat}{us:List NJ},Vals (Cs.map V.ref) us->us=Cs.map Oe
 | [],_,.nil=>rfl
 | C::t,_,.cons r h=>by
  rw[lH h];cases(show _=Oe C from r);rfl
theorem zZ{Cs:List Nat}{j:Nat}(hk:uH X.K tab (Cs.map Oe))(hm:X.mg "isinstance" =NI)(hC:xb X es Cs)(hl:Cs.length<=NZ)(he:qf X e ma)(hg:Gl X "isinstance" :=by rfl)(hs:noStar e=true:=by rfl) :
  qf X (.Call (.Name "isinstance" p) [e,.Tuple es j tp] [] pos) (nM (g9 tab) ma):=let ⟨_,q,s⟩:=he.h
 ⟨_,λx=>⟨ie (ua (λ_=>lH)) hg hm TJ (cR (q x).h (cR (uT (uO hC)) gA) (aL hs)) (by decide) (by decide) (aL hs) rfl⟩,λc=>Bt (s c) hk (by simpa using hl)⟩
theorem AG(hk:K9 X.K tb f)(he:qf X e ma)(hb:Qe e f X.env (Py e X.env)=Py e X.env:=by rfl):qf X (.Attribute e f pos) (nM (Fw tb f) ma):=let ⟨_,q,s⟩:=he.h;⟨_,λx=>⟨Al (X:=hand X x) (q x).h hb⟩,λc=>A8 (s c) hk⟩
theorem yS(he:qf X e ma)(hw: ∀ whole,UG e X.env whole=(do let v <- whole;UW e.pos;RZ [v] (truthy v)):=by intro _;rfl):B6 X e (aV ma):=let ⟨_,q,s⟩:=he.h;⟨_,λx=>vm (X:=hand X x) (q x) hw,λc=>jQ (s c)⟩
theorem BI(h:B6 X a mt):B6 X (.UnaryOp .Not a pos) (j6 mt):=let ⟨_,q,s⟩:=h.h;⟨_,λx=>xD (q x),λc ρ h H e σ Q v h' sm r q P=>by
 obtain⟨x,h1,e1,q⟩:=bind_eq.mp q;cases q;exact s c ρ h H e σ _ _ _ sm r e1 fun ρ1 H1 g1 z1=>P ρ1 H1 g1 z1⟩
theorem A5{r:List Ou}(h1:B6 X a mt)(h2:El X (.BoolOp .And (b::r) pos) mu):El X (.BoolOp .And (a::b::r) pos) (yu mt mu):=let ⟨_,q1,s1⟩:=h1.h;let ⟨_,q2,s2⟩:=h2.h;⟨_,λx=>ED (q1 x) (q2 x),λc ρ h H e σ Q v h' s r q P=>by
 obtain⟨x,h1,e1,q⟩:=bind_eq.mp q;refine s1 c ρ h H e σ _ _ _ s r e1 fun ρ1 H1 g1 z1=>?_;cases x with
 | true=>exact s2 c ρ1 _ H1 e σ _ _ _ z1 (r.gr g1) q (P.gr g1)
 | false=>cases q;exact P ρ1 H1 g1 z1⟩
theorem xy(h1:B6 X a mt):El X (.BoolOp .And [a] pos) mt:=let ⟨_,q1,s1⟩:=h1.h;⟨_,λx=>Ay (q1 x),s1⟩
theorem El.pt(h:El X e mt):B6 X e mt:=let ⟨_,q,s⟩:=h.h;⟨_,λx=>(q x).pt,s⟩
theorem yW{j:Nat}{pos':Pos}(hN:X.N.Nodup)(he:qf X e ma)(hi:X.N[j]?=NG x:=by rfl)(hx:Loc X.env.scope x:=by first | exact RX rfl | exact RL rfl)(hs:Pt e (NG (.Name x pos')) pos.line X.env=pure false:=by rfl)(hf:X.fn x=true\/X.env.scope.names.lookup x=NG .local:=by first | exact .inl rfl | exact .inr rfl) :
  Kg X (.Assign [.Name x pos'] e pos) (ar ma (gN j)):=let ⟨_,q,s⟩:=he.h;⟨_,λy=>qR (X:=hand X y) hN hi hx (q y) hs hf,λc=>EL (s c)⟩
theorem Eo{A B:List Pn}(hc:B6 X d mt)(ha:o1 X A ms)(hb:o1 X B mv):Kg X (.If d A B pos) (cZ mt ms mv):=let ⟨_,q0,s0⟩:=hc.h;let ⟨_,q1,s1⟩:=ha.h;let ⟨_,q2,s2⟩:=hb.h;⟨_,λx=>yb (q0 x) (q1 x) (q2 x),λc ρ h H e σ D f h' s r q P=>by
 obtain⟨x,h1,e1,q⟩:=bind_eq.mp q;refine s0 c ρ h H e σ _ _ _ s r e1 fun ρ1 H1 g1 z1=>?_;cases x with
 | true=>exact s1 c ρ1 _ H1 e σ _ _ _ z1 (r.gr g1) q (P.gr g1)
 | false=>exact s2 c ρ1 _ H1 e σ _ _ _ z1 (r.gr g1) q (P.gr g1)⟩
theorem u0:o1 X [] ee:=⟨_,λ_=>mM,λ_=>BW⟩
theorem yg(h:Kg X st ms):o1 X [st] ms:=let ⟨_,q,s⟩:=h.h;⟨_,λx=>ng (q x),s⟩
theorem ux(h1:Kg X st ms)(h2:o1 X rest mv):o1 X (st::rest) (aj ms mv):=let ⟨_,q1,s1⟩:=h1.h;let ⟨_,q2,s2⟩:=h2.h;⟨_,λx=>ke (q1 x) (q2 x),λc=>xv (s1 c) (s2 c)⟩
end
theorem iu{K:NH}{C:NQ}(h1:(SV K C).any (λcd=>xK cd.mro)=true)(h2:RC K C=true)(h3:O0 K C (.type "object")=NG true)(h4:O0 K C (.type "BaseException")=NG true)(h5:Oc K (.ref C) "__setattr__" =NG (NG (.builtin "object.__setattr__")))(h6:Oc K (.ref C) "__getattribute__" =NG (NG (.builtin "BaseException.__getattribute__")))(h7:Oc K (.ref C) "__getattr__" =NG NI):gZ K C :=
 ⟨let ⟨cd,a,b⟩:=Q3 h1;⟨cd,a,b⟩,h2,h3,h4,h5,h6,h7⟩
theorem Ge{P:Om}{w:OC}{K:NH}{mg:Str->Option NJ}{xn:Str}{C:NQ}{names N ps:List Str}{fn:String}{st:Pn}(c:gZ K C)(mk:gh K C=true)(kp:OZ K (.ref C)=true)(gl:mg xn=NG (.ref C))(na: ∀ f∈names,Oc K (.ref C) f=NG NI)(M:KI K C "__init__" fn st)(S:br N ps (ae st))
  (hb: ∀(kV doc pm:NJ)(an:Option NQ)(cdv ct:NJ)(us:List NJ),us.length=ps.length->Pw (OA "__init__" (NP fn) (aS st) (ay st) (ae st) .none kV doc pm an cdv ct) ⟨us,[]⟩=pure (ps.zip us))
  (hl:names.length+1=ps.length) (hs: ∀ f base cdv A outer s H x,Pd (λst' (g:Str × Nat)=>Kc (C:=C) (GY P w K mg base N (NP fn) (ae st) f cdv A outer s H x) st' g.1 g.2) (ay st) (names.zipIdx 1)) (n0:names≠[]) (nd:names.Nodup) (nl:names.length < 1000):G4 P w K mg xn C names :=
 let ⟨f,fd,F,m⟩:=M
 ⟨c,mk,kp,gl,na,⟨_,st,f,fd,N,ps,F,S,m.at_,beq_iff_eq.mp m.fn,hb,hl,hs f⟩,n0,nd,nl⟩
theorem mR{K:NH}{cs:List NJ}:uH K [] cs:=λ_ _ l=>nomatch l
theorem ko{K:NH}{C:Nat}{b:Bool}{cs:List NJ}{t:List (Nat × Bool)}(h:HR K C)(k:P7 K (.ref C) cs=NG b)(r:uH K t cs):uH K ((C,b)::t) cs:=λD d l=>by
 rw[Pa] at l;split at l
 . rename_i z;cases l;rw[beq_iff_eq.mp z];exact⟨h,k⟩
 . exact r D d l
theorem CD{K:NH}{C A:NQ}{cd ca:ClassData}{dd d1 d2:Option NQ}{sl s1 s2:Array (Option NJ)}{c1 c2:NJ}{es:Array WA}{n:Nat}{k0 k1 k2 k3 k5:Option NJ}(l:K.lookup C=NG ⟨.type "type",dd,.cls cd,sl⟩)(la:K.lookup A=NG ⟨c1,d1,.cls ca,s1⟩)(ln:K.lookup ca.ns=NG ⟨c2,d2,.dict es n,s2⟩)
  (hi:O8 K ca.ns "__init__" =NG NI) (hm:cd.mro= .ref C:: .ref A::uS) (hs:sl.toList=[k0,k1,k2,k3,NG (.builtin "ValueError.__new__"),k5]) (hd:cd.hasDel=false) (hk:(es.toList.all λe=>match e.key with | .str _ _=>true | _=>false)=true):gh K C=true:=by
 have ok:V1 K ca.ns=true:=by unfold V1;rw[ln];rw[Array.all_toList] at hk;exact hk
 have t:RI K uS (.ref A::uS)=true:=by
  unfold RI;simp only[la,ok,hi];have:RI K uS uS=true:=by unfold uS RI;simp
  simp[this]
 unfold gh;simp only[l,hm,hs,hd,t];simp
section
variable{c:CF}{e e1:aG}{h h1:PH}{a:ME}{t:MT}{r:MA}{x y v:PV}{s mb mh:MS}{i n C:Nat}{tab:List Nat}{us:List (Str × PV)}{α :Type}
theorem Ii:nX a c e h=(a c e h).strip:=rfl
theorem Ij:nA r c e h=(r c e h).strip:=rfl
theorem HA:nS s c e h=(s c e h).strip:=rfl
theorem HE:nT t c e h=(t c e h).strip:=rfl
theorem Hi{m:MI}:nI m c e h=(m c e h).strip:=rfl
theorem HX{m:MG}:nG m v e h=(m v e h).strip:=rfl
def Mm(f:List PV->PH->RV PV)(xs:List PV)(h:PH):RV PV:=(f xs h).strip
theorem Jg{f:List PV->PH->RV PV}:K4 f r c e h=(r c e h).bind (Mm f):=rfl
theorem F6{f:List PV->PH->RV PV}{xs:List PV}:Mm f xs h=(f xs h).strip:=rfl
noncomputable def Lb(C:Nat)(names:List Str)(vs:List PV)(h1:PH):RV Fl:=if vs.length=names.length then .ex C (names.zip vs) h1 else .no
theorem Jk{names:List Str}:fg C names r c e h=(r c e h).bind (Lb C names):=rfl
theorem EZ{f:Str}:Lb C [f] [v] h= .ex C [(f,v)] h:=(rfl)
theorem Ej{f g:Str}:Lb C [f,g] [x,v] h= .ex C [(f,x),(g,v)] h:=(rfl)
def vG(tab:List Nat)(i n:Nat)(mh:MS)(c:CF)(r:RV Fl):RV Fl:=match r with
 | .ok f h'=> .ok f h'
 | .ex C us h'=>if C∈tab then(mh c ((NM n NI).set i (NG (.ref h'.length))) (h'++[.exc C us])).bind λf h2=> .ok (f.Fh i) h2 else .no
 | .no=> .no
theorem Gs:wG tab i n mb mh c e h=vG tab i n mh c (mb c e h):=by unfold wG vG;rfl
theorem AY{f:Fl}:vG tab i n mh c (.ok f h)= .ok f h:=(rfl)
def Dm(i:Nat)(f:Fl)(h2:PH):RV Fl:= .ok (f.Fh i) h2
theorem BG(m:C∈tab):vG tab i n mh c (.ex C us h)=(mh c ((NM n NI).set i (NG (.ref h.length))) (h++[.exc C us])).bind (Dm i):=if_pos m
theorem A4:Dm i (.nx e) h= .ok (.nx (e.set i NI)) h:=(rfl)
theorem yz:Dm i (.rt v) h= .ok (.rt v) h:=(rfl)
theorem wW{b:Bool}{t:List (Nat × Bool)}(q:h[n]?=NG (.exc C us))(l:t.lookup C=NG b):g9 t (.ref n) h= .ok (.bl b) h:=by unfold g9;simp only[q,l]
theorem Jn{f:Str}(q:h[n]?=NG (.exc C us))(m:C∈tab)(l:us.lookup f=NG y):Fw tab f (.ref n) h= .ok y h:=by unfold Fw;simp only[q,l,m,if_true]
end
def nu(a:Str)(n:Nat):Str:=⟨(NM n a.cps).foldl (· ++ ·) #[]⟩
def Hy:R2:=λx y H Q=> ∃ a n,x= .str a/\y= .int n/\2<=n/\n<=1000/\1<=a.length/\a.length<=1000/\(nu a n.toNat).length<=16777216/\Q (.str (nu a n.toNat)) H
theorem Ai{X:Cx}:bT X (O3 .Mult) Hy:=by
 intro pins s σ H x y v u Q I rx ry h;obtain⟨a,n,rfl,rfl,h1,h2,h3,h4,h5,q⟩:=h;obtain⟨t,rfl⟩:=rx;obtain⟨t',rfl⟩:=ry;have n1:(n == 1||a.length == 0)=false:=by
  rw[Ua];exact⟨by rw[beq_eq_false_iff_ne];omega,by rw[beq_eq_false_iff_ne];omega⟩
 have le:a.length*n.toNat<=1000*1000:=Nat.mul_le_mul h4 (by omega);refine PySem.P.mul_str ?_ (λ_ _=>?_) (λ_ _=>?_) ?_
 . rw[Ua];exact⟨decide_eq_false (by omega),decide_eq_false (by omega)⟩
 . have:(1000:Int)<=(2 ^ 63 - 1) / n:=by
    rw[Int.le_ediv_iff_mul_le (by omega)];omega
   omega
 . unfold Builtin.Str.tooLong;exact decide_eq_false (by show ¬ 16777216 < _;omega)
 . rw[if_neg (by omega),n1,if_neg N6];exact⟨h5,.str (nu a n.toNat),H,I.tok _,⟨_,rfl⟩,q⟩
def i8:PV->PV->PH->RV PV:=λx y h=>match x,y with
 | .str a,.int n=>if 2<=n/\n<=1000/\1<=a.length/\a.length<=1000/\(nu a n.toNat).length<=16777216 then .ok (.str (nu a n.toNat)) h else .no
 | _,_=> .no
section
variable{X:Cx}{pg:Tb}{k:Nat}
theorem Eg:bO X pg k-> ∃ r,bT X (O3 .Mult) r/\iy X.K r i8:=λ_=>⟨_,Ai,fun ρ h H x y x' y' Q v h' s rx ry q P=>by
 unfold i8 at q;split at q
 . split at q
   . rename_i hc;cases q;rw[rel] at rx;rw[rel] at ry;exact⟨_,_,rx,ry,hc.1,hc.2.1,hc.2.2.1,hc.2.2.2.1,hc.2.2.2.2,P _ ρ H (.refl _ _) s (by rw[rel])⟩
   . nomatch q
 . nomatch q⟩
end
end P3
end
section
open PySem PySem.W PyProof.Rows
set_option maxHeartbeats 5000000
namespace K71
open PySem L2 P3 PyProof.Rows
noncomputable def top(i:Nat):Stmt:=PySem.Challenge.pw_leastrecord_k71_records_as_lines.main.body.getD i (.Pass ⟨0,0,0,0⟩)
def HD(i j:Nat):Pn:=(Ad (top i)).getD j (.Pass ⟨0,0,0,0⟩)
def bu:MS :=
  (aj (cZ (yK (mQ (aa 0) (eS "")) (yK (aV (aD KW (eB bB (a1 (aa 0))) (eB bB (ag (eB c9 (a1 (aa 2))) aA)))) (j6 (aV (eB x8 (ag (d5 1 (gE (aa 0)) (gN 3) aU (aD A2 (aa 3) (eS "0123456789"))) aA)))))) (aZ (eC (.bl false))) ee)
  (aZ (oO (aD fZ (eB c9 (ag (eB cY (a1 (aa 0))) aA)) (aa 0)) (iK zU zU (aa 1) (eB cY (a1 (aa 0))) (aa 2)))))
def aR:Df:=⟨["word", "least", "most"],0,bu⟩
def fq:MS :=
  (aj (ar (bP (ag (ai "line_of" (a2 (eS "upto") (eX 0 0))) aA)) (gN 1))
  (aj (cK (eM dM bf (aa 1) (ag (d5 1 (gE (eX 0 1)) (gN 2) aU (ai "line_of" (a2 (eS "gifts") (aa 2)))) aA)))
  (aj (cK (eM dM bf (aa 1) (ag (d5 2 (gE (eX 0 2)) (gT 2 (bW (gN 2) (bW (gN 3) f9))) aU (ai "line_of" (ag (eS "edge") (ag (aD az (aa 2) (aa 3)) aA)))) aA)))
  (aZ (aa 1)))))
def cI:Df:=⟨["record"],1,fq⟩
def l3:MS :=
  (aZ (eM gj bD (eS " ") (ag (aD az (bP (a1 (aa 0))) (d5 1 (gE (aa 1)) (gN 2) aU (ai "shown_number" (a1 (aa 2))))) aA)))
def fS:Df:=⟨["word", "numbers"],0,l3⟩
def dq:MS :=
  (aZ (qY (aV (nM (mU false) (aa 0))) (eS "-") (eB c9 (a1 (aa 0)))))
def bV:Df:=⟨["number"],0,dq⟩
def bh(aNoLines:Nat):MS :=
  (aj (ar (d5 1 (gE (ai "words_behind" (nA (a3 (aa 0) (eI 0) (eS "upto"))))) (nG (gN 5)) (nT aU) (ai "number_in" (nA (a2 (aa 5) (eI 0))))) (gN 1))
  (aj (cZ (nT (j6 (aV (iK zU zU (eI 1) (eB bB (a1 (aa 1))) (eI 4))))) (fg aNoLines ["row"] (nA (a1 (eI 0)))) ee)
  (aj (nS (ar (aD az (eI 1) (eB bB (a1 (aa 1)))) (gN 2)))
  (aj (ar (d5 1 (nI (gQ (a2 (eI 1) (aa 2)))) (nG (gN 5)) (nT aU) (ai "read_gifts" (nA (a2 (aa 0) (aa 5))))) (gN 3))
  (aj (ar (d5 1 (nI (gQ (ag (aa 2) (ag (eB bB (a1 (aa 0))) aA)))) (nG (gN 5)) (nT aU) (ai "read_edge" (nA (a2 (aa 0) (aa 5))))) (gN 4))
  (nS (aZ (cC (ag (eB aH (a1 (aa 1))) (ag (eB aH (a1 (aa 3))) (ag (eB aH (a1 (aa 4))) aA)))))))))))
def aQ(aNoLines:Nat):Df:=⟨["lines"],4,bh aNoLines⟩
def de:MS :=
  (aZ (K4 aH (ag (d5 1 (gE (ai "words_behind" (nA (a3 (aa 0) (aa 1) (eS "gifts"))))) (nG (gN 2)) (nT aU) (ai "number_or_none" (nA (a2 (aa 2) (aa 1))))) aA)))
def b8:Df:=⟨["lines", "row"],0,de⟩
def cX(aNoLines:Nat):MS :=
  (aj (ar (K4 aH (ag (d5 1 (gE (ai "words_behind" (nA (a3 (aa 0) (aa 1) (eS "edge"))))) (nG (gN 3)) (nT aU) (ai "number_in" (nA (a2 (aa 3) (aa 1))))) aA)) (gN 2))
  (aj (cZ (nT (aV (aD iz (eB bB (a1 (aa 2))) (eI 4)))) (fg aNoLines ["row"] (nA (a1 (aa 1)))) ee)
  (nS (aZ (cC (ag (cE (aa 2) aC (au (eI 2))) (ag (cE (aa 2) (au (eI 2)) aC) aA)))))))
def bY(aNoLines:Nat):Df:=⟨["lines", "row"],1,cX aNoLines⟩
def cD(aNoLines:Nat):MS :=
  (aj (cZ (nT (aV (aD fZ (aa 1) (eB bB (a1 (aa 0)))))) (fg aNoLines ["row"] (nA (a1 (aa 1)))) ee)
  (aj (nS (ar (eM dP bD (aD fP (aa 0) (aa 1)) (a1 (eS " "))) (gN 3)))
  (aj (cZ (nT (aV (aD iz (eX 3 0) (aa 2)))) (fg aNoLines ["row"] (nA (a1 (aa 1)))) ee)
  (nS (aZ (cE (aa 3) (au (eI 1)) aC))))))
def bI(aNoLines:Nat):Df:=⟨["lines", "row", "word"],1,cD aNoLines⟩
def fG(aNoLines:Nat):MS :=
  (aj (cZ (nT (j6 (aV (ai "writes_number" (a3 (aa 0) (eI 0) (eI 9999999999999999999999999999999999999999)))))) (fg aNoLines ["row"] (nA (a1 (aa 1)))) ee)
  (nS (aZ (eB cY (a1 (aa 0))))))
def cU(aNoLines:Nat):Df:=⟨["word", "row"],0,fG aNoLines⟩
def b7:MS :=
  (aZ (qY (nT (mQ (aa 0) (eS "-"))) (nX (eC .non)) (ai "number_in" (nA (a2 (aa 0) (aa 1))))))
def bj:Df:=⟨["word", "row"],0,b7⟩
def iU:MS :=
  (aZ (bP (ag (aD az (eB eA (ag (cE (aa 0) aC (au (eI 63))) aA)) (aD eN (bP (a1 (eI 0))) (eB cY (ag (aD fZ (eB bB (a1 (aa 0))) (eI 0)) aA)))) (a3 (aa 1) (eI 0) (eI 0)))))
def dG:Df:=⟨["_law_script", "_law_at"],0,iU⟩
def dE:MS :=
  (aj (oM nv (aa 0) (eI 3) (aD az (eX 0 3) (eI 1)))
  (aj (cZ (mQ (eX 0 2) (eI 0)) (aj (ar (aD fP (eX 0 0) (aD kM (eX 0 1) (eB bB (a1 (eX 0 0))))) (gN 2))
  (aj (oM nv (aa 0) (eI 1) (aD az (eX 0 1) (eI 1)))
  (aj (cZ (aV (aD EK (aa 2) (aD uV (eI 10) (eI 18)))) (aj (ar (aD kM (aD eN (aD az (aD kM (aa 2) (eI 2147483629)) (aD eN (eI 1009) (eX 0 3))) (eI 48271)) (eI 2147483647)) (gN 3))
  (aj (ar (aD kM (aD eN (aD az (aD iR (aa 3) (eI 11)) (aD eN (eI 31) (eX 0 3))) (eI 69621)) (eI 2147483587)) (gN 3))
  (aZ (aD kM (aD iR (aa 3) (eI 7)) (aa 1))))) ee)
  (oM nv (aa 0) (eI 2) (aa 2))))) ee)
  (aj (ar (aD kM (eX 0 2) (aa 1)) (gN 4))
  (aj (oM nv (aa 0) (eI 2) (aD iR (eX 0 2) (aa 1)))
  (aZ (aa 4))))))
def cx:Df:=⟨["_law_feed_here", "_law_many"],3,dE⟩
def dR:MS :=
  (aj (ar (ai "_law_take" (a2 (aa 0) (eI 12))) (gN 1))
  (aj (cZ (mQ (aa 1) (eI 0)) (aZ (aD tP (aD tP (aD uV (eI 10) (eI 40)) (eI 1)) (ai "_law_take" (a2 (aa 0) (eI 1000))))) ee)
  (aZ (aD fP (bP (ag (eI 0) (ag (eI 1) (ag (eI 2) (ag (eI 9) (a3 (eI 10) (eI 60) (eI 101))))))) (aD kM (aa 1) (eI 7))))))
def cm:Df:=⟨["_law_feed_here"],1,dR⟩
def gw:MS :=
  (aj (ar (aD az (eI 1) (ai "_law_take" (a2 (aa 0) (eI 4)))) (gN 1))
  (aj (ar (bP aA) (gN 2))
  (aj (eR (bG (a1 (aa 1))) (gN 3) (aj (ar (d5 1 (bG (ag (ai "_law_take" (a2 (aa 0) (eI 4))) aA)) (gN 9) aU (ai "_law_number" (a1 (aa 0)))) (gN 4))
  (aj (ar (d5 1 (gE (aa 4)) (gN 9) aU (qY (aV (aD fZ (ai "_law_take" (a2 (aa 0) (eI 5))) (eI 0))) (eC .non) (aa 9))) (gN 4))
  (cK (eM bt bf (aa 2) (ag (eB aH (a1 (aa 4))) aA))))))
  (aj (ar (bP aA) (gN 5))
  (aj (eR (bG (ag (ai "_law_take" (a2 (aa 0) (eI 7))) aA)) (gN 6) (aj (ar (d5 1 (bG (a1 (eI 4))) (gN 9) aU (ai "_law_number" (a1 (aa 0)))) (gN 7))
  (cK (eM bt bf (aa 5) (ag (cC (ag (cC (a2 (eX 7 0) (eX 7 1))) (ag (cC (a2 (eX 7 2) (eX 7 3))) aA))) aA)))))
  (aj (ar (eB aH (ag (d5 1 (bG (a1 (aa 1))) (gN 9) aU (ai "_law_number" (a1 (aa 0)))) aA)) (gN 8))
  (aZ (cC (ag (aa 8) (ag (eB aH (a1 (aa 2))) (ag (eB aH (a1 (aa 5))) aA)))))))))))
def cN:Df:=⟨["_law_feed_here"],8,gw⟩
def ip:MS :=
  (aj (ar (bP (a1 (eS "upto"))) (gN 1))
  (aj (eR (gE (eX 0 0)) (gN 2) (oM nv (aa 1) (eI 0) (aD az (aD az (eX 1 0) (eS " ")) (eB c9 (a1 (aa 2))))))
  (aj (eR (gE (eX 0 1)) (gN 3) (aj (ar (eS "gifts") (gN 4))
  (aj (eR (gE (aa 3)) (gN 5) (ar (aD az (aD az (aa 4) (eS " ")) (qY (aV (nM (mU false) (aa 5))) (eS "-") (eB c9 (a1 (aa 5))))) (gN 4)))
  (cK (eM bt bf (aa 1) (a1 (aa 4)))))))
  (aj (eR (gE (eX 0 2)) (gT 2 (bW (gN 6) (bW (gN 7) f9))) (aj (ar (eS "edge") (gN 4))
  (aj (eR (gE (aD az (aa 6) (aa 7))) (gN 2) (ar (aD az (aD az (aa 4) (eS " ")) (eB c9 (a1 (aa 2)))) (gN 4)))
  (cK (eM bt bf (aa 1) (a1 (aa 4)))))))
  (aZ (aa 1))))))
def dc:Df:=⟨["_law_record_here"],7,ip⟩
def a9:MS :=
  (aj (cZ (yK (mQ (aa 0) (eS "")) (aV (aD KW (eB bB (a1 (aa 0))) (eI 40)))) (aZ (eC (.bl false))) ee)
  (aj (cZ (aV (aD iz (d5 1 (gE (aa 0)) (gN 1) (aV (aD iF (aa 1) (eS "0123456789"))) (aa 1)) (bP aA))) (aZ (eC (.bl false))) ee)
  (aZ (LX (aD fZ (aa 0) (eS "0")) (aD iz (eX 0 0) (eS "0"))))))
def aI:Df:=⟨["_law_word_here"],0,a9⟩
def aY:MS :=
  (aj (ar (d5 1 (gE (cE (aa 1) (au (eI 1)) aC)) (gN 4) (j6 (aV (ai "_law_is_figures" (a1 (aa 4))))) (aa 4)) (gN 3))
  (aj (cZ (mQ (aa 0) (eI 0)) (aZ (oO (aD fZ (eX 1 0) (eS "upto")) (oO (aD A2 (eB bB (a1 (aa 1))) (cC (ag (eI 2) (a3 (eI 3) (eI 4) (eI 5))))) (aD fZ (aa 3) (bP aA))))) ee)
  (aj (cZ (aV (aD zU (aa 0) (aa 2))) (aZ (oO (aD fZ (eX 1 0) (eS "gifts")) (aD fZ (d5 1 (gE (aa 3)) (gN 4) (aV (aD iz (aa 4) (eS "-"))) (aa 4)) (bP aA)))) ee)
  (aZ (oO (aD fZ (eX 1 0) (eS "edge")) (oO (aD fZ (eB bB (a1 (aa 1))) (eI 5)) (aD fZ (aa 3) (bP aA))))))))
def aJ:Df:=⟨["_law_row", "_law_words", "_law_hands"],1,aY⟩
def cT:MS :=
  (aj (ar (eI 0) (gN 1))
  (aj (ar (bP aA) (gN 2))
  (aj (ar (bP aA) (gN 3))
  (aj (ar (cC aA) (gN 4))
  (aj (eR (bG (ag (eB bB (a1 (aa 0))) aA)) (gN 5) (aj (ar (eM dP bD (aD fP (aa 0) (aa 5)) (a1 (eS " "))) (gN 6))
  (aj (cZ (j6 (aV (ai "_law_stands" (a3 (aa 5) (aa 6) (aa 1))))) (aZ (cC (a2 (eS "row") (aa 5)))) ee)
  (cZ (mQ (aa 5) (eI 0)) (aj (ar (aD tP (eB bB (a1 (aa 6))) (eI 1)) (gN 1))
  (ar (eB aH (ag (d5 1 (gE (cE (aa 6) (au (eI 1)) aC)) (gN 8) aU (eB cY (a1 (aa 8)))) aA)) (gN 4))) (cZ (aV (aD zU (aa 5) (aa 1))) (aj (ar (d5 1 (gE (cE (aa 6) (au (eI 1)) aC)) (gN 8) aU (qY (mQ (aa 8) (eS "-")) (eC .non) (eB cY (a1 (aa 8))))) (gN 5))
  (cK (eM bt bf (aa 2) (ag (eB aH (a1 (aa 5))) aA)))) (aj (ar (d5 1 (gE (cE (aa 6) (au (eI 1)) aC)) (gN 8) aU (eB cY (a1 (aa 8)))) (gN 7))
  (cK (eM bt bf (aa 3) (ag (cC (ag (cC (a2 (eX 7 0) (eX 7 1))) (ag (cC (a2 (eX 7 2) (eX 7 3))) aA))) aA)))))))))
  (aj (cZ (yK (aV (aD fZ (aa 0) (bP aA))) (aV (aD EK (eB bB (a1 (aa 2))) (aa 1)))) (aZ (cC (ag (eS "row") (ag (eB bB (a1 (aa 0))) aA)))) ee)
  (aZ (cC (ag (eS "record") (ag (cC (ag (aa 4) (ag (eB aH (a1 (aa 2))) (ag (eB aH (a1 (aa 3))) aA)))) aA))))))))))
def a8:Df:=⟨["_law_lines_here"],7,cT⟩
def ft(aNoLines:Nat):MS :=
  (aj (wG [aNoLines] 2 4 (ar (cC (ag (nX (eS "record")) (ag (ai "read_record" (nA (a1 (aa 0)))) aA))) (gN 1))
  (aj (ar (eS "other") (gN 1))
  (aj (ar (nM (g9 [(aNoLines,false)]) (aa 2)) (gN 3))
  (cZ (yu (aV (nM (g9 [(aNoLines,true)]) (aa 2))) (yu (j6 (aV (aa 3))) (aV (nM (g9 [(aNoLines,true)]) (aa 2))))) (ar (cC (ag (eS "row") (ag (nM (Fw [aNoLines] "row") (aa 2)) aA))) (gN 1)) ee))))
  (aZ (aa 1)))
def cV(aNoLines:Nat):Df:=⟨["_law_lines_here"],3,ft aNoLines⟩
def iY:MS :=
  (aj (ar (bP (ag (eS "-") (ag (eS "") (ag (eS "0") (ag (eS "00") (ag (eS "01") (ag (eS "+1") (ag (eS "-1") (ag (eS "1.0") (ag (eS "1_0") (ag (eS "7") (ag (aD i8 (eS "9") (eI 40)) (ag (aD i8 (eS "9") (eI 41)) aA))))))))))))) (gN 1))
  (aj (ar (aD az (aa 1) (bP (ag (eS "upto") (a3 (eS "gifts") (eS "edge") (eS "x"))))) (gN 1))
  (aZ (aD fP (aa 1) (ai "_law_take" (a2 (aa 0) (eI 16)))))))
def dz:Df:=⟨["_law_feed_here"],1,iY⟩
def i6:MS :=
  (aj (ar (ai "_law_take" (ag (aa 0) (ag (aD az (eB bB (a1 (aa 1))) (eI 1)) aA))) (gN 2))
  (aj (ar (ai "_law_take" (a2 (aa 0) (eI 9))) (gN 3))
  (aj (cZ (mQ (aa 3) (eI 0)) (aZ (aD az (cE (aa 1) aC (au (aa 2))) (cE (aa 1) (au (aD az (aa 2) (eI 1))) aC))) ee)
  (aj (cZ (mQ (aa 3) (eI 1)) (aZ (aD az (aD az (cE (aa 1) aC (au (aa 2))) (cE (aa 1) (au (aa 2)) (au (aD az (aa 2) (eI 1))))) (cE (aa 1) (au (aa 2)) aC))) ee)
  (aj (cZ (mQ (aa 3) (eI 2)) (aZ (aD az (cE (aa 1) (au (aa 2)) aC) (cE (aa 1) aC (au (aa 2))))) ee)
  (aj (cZ (mQ (aa 3) (eI 3)) (aZ (aD az (aD az (cE (aa 1) aC (au (aa 2))) (bP (ag (ai "_law_word" (a1 (aa 0))) aA))) (cE (aa 1) (au (aa 2)) aC))) ee)
  (aj (cZ (aV (aD fZ (aa 2) (eB bB (a1 (aa 1))))) (aZ (aa 1)) ee)
  (aj (ar (eM dP bD (aD fP (aa 1) (aa 2)) (a1 (eS " "))) (gN 4))
  (aj (ar (ai "_law_take" (ag (aa 0) (ag (aD az (eB bB (a1 (aa 4))) (eI 1)) aA))) (gN 5))
  (aj (cZ (aV (aD EK (aa 3) (eI 6))) (ar (aD az (aD az (cE (aa 4) aC (au (aa 5))) (bP (ag (ai "_law_word" (a1 (aa 0))) aA))) (cE (aa 4) (au (aD az (aa 5) (eI 1))) aC)) (gN 4)) (cZ (mQ (aa 3) (eI 6)) (ar (aD az (cE (aa 4) aC (au (aa 5))) (cE (aa 4) (au (aD az (aa 5) (eI 1))) aC)) (gN 4)) (cZ (mQ (aa 3) (eI 7)) (ar (aD az (aD az (cE (aa 4) aC (au (aa 5))) (bP (ag (ai "_law_word" (a1 (aa 0))) aA))) (cE (aa 4) (au (aa 5)) aC)) (gN 4)) (ar (aD az (aD az (cE (aa 4) aC (au (aa 5))) (bP (a1 (eS "")))) (cE (aa 4) (au (aa 5)) aC)) (gN 4)))))
  (aZ (aD az (aD az (cE (aa 1) aC (au (aa 2))) (bP (ag (eM gj bD (eS " ") (a1 (aa 4))) aA))) (cE (aa 1) (au (aD az (aa 2) (eI 1))) aC)))))))))))))
def bw:Df:=⟨["_law_feed_here", "_law_lines_here"],4,i6⟩
def Cg:MS :=
  (aj (ar (ai "_law_feed" (a2 (aa 0) (eI 0))) (gN 1))
  (aj (eR (bG (a1 (eI 4))) (gN 2) (aj (ar (ai "_law_record" (a1 (aa 1))) (gN 3))
  (aj (ar (ai "record_lines" (a1 (aa 3))) (gN 4))
  (aj (cZ (aV (aD iz (eB aO (a1 (aa 4))) (eB aO (ag (ai "_law_lines" (a1 (aa 3))) aA)))) (aZ (eC (.bl false))) ee)
  (aj (eR (bG (a1 (eI 7))) (gN 5) (aj (ar (eB eA (a1 (aa 4))) (gN 6))
  (aj (eR (bG (ag (aD fP (bP (ag (eI 0) (ag (eI 1) (ag (eI 1) (ag (eI 2) (a3 (eI 1) (eI 1) (eI 2))))))) (aa 5)) aA)) (gN 7) (ar (ai "_law_bent" (a2 (aa 1) (aa 6))) (gN 6)))
  (aj (ar (eB eA (a1 (aa 6))) (gN 8))
  (cZ (yK (aV (aD iz (eB aO (ag (ai "_law_told" (a1 (aa 6))) aA)) (eB aO (ag (ai "_law_read" (a1 (aa 8))) aA)))) (aV (aD iz (aa 6) (aa 8)))) (aZ (eC (.bl false))) ee)))))
  (aj (cK (eM bt bf (aa 4) (a1 (eS "edge"))))
  (cZ (aV (aD iz (eB aO (ag (ai "record_lines" (a1 (aa 3))) aA)) (eB aO (ag (ai "_law_lines" (a1 (aa 3))) aA)))) (aZ (eC (.bl false))) ee)))))))
  (aZ (aD fZ (eB aO (ag (ai "_law_told" (a1 (bP aA))) aA)) (eB aO (ag (cC (a2 (eS "row") (eI 0))) aA))))))
def sj:Df:=⟨["_law_script"],8,Cg⟩
structure XF(P:Om)(w:OC)(K:NH)(mg:Str->Option NJ)(aNoLines aLeastError aNoCut aNoFit aNoPaper aNoProgram aNoRow:Nat):Prop where
 Hb:G4 P w K mg "NoLines" aNoLines ["row"]
 Au:Iy K mg "LeastError" aLeastError [aNoLines]
 ND:uH K [(aNoLines,false)] (List.map Oe [aNoCut,aNoFit,aNoPaper,aNoProgram,aNoRow])
 NC:uH K [(aNoLines,true)] [.ref aNoLines]
 NA:uH K [(aNoLines,true)] [.type "ValueError"]
 KU:mg "NoCut" =NG (.ref aNoCut)
 KO:mg "NoFit" =NG (.ref aNoFit)
 G5:mg "NoPaper" =NG (.ref aNoPaper)
 B2:mg "NoProgram" =NG (.ref aNoProgram)
 Ky:mg "NoRow" =NG (.ref aNoRow)
 Ha:mg "NoLines" =NG (.ref aNoLines)
 zG:mg "ValueError" =NI
 AJ:mg "isinstance" =NI
 MV:K9 K [aNoLines] "row"
structure dh(aNoLines:Nat)(pg:Tb):Prop where
 jh:pg.fns "writes_number" =NG aR
 ki:pg.fns "record_lines" =NG cI
 tH:pg.fns "line_of" =NG fS
 jE:pg.fns "shown_number" =NG bV
 kI:pg.fns "read_record" =NG (aQ aNoLines)
 mq:pg.fns "read_gifts" =NG b8
 oY:pg.fns "read_edge" =NG (bY aNoLines)
 jD:pg.fns "words_behind" =NG (bI aNoLines)
 pD:pg.fns "number_in" =NG (cU aNoLines)
 iA:pg.fns "number_or_none" =NG bj
 pI:pg.fns "_law_feed" =NG dG
 fc:pg.fns "_law_take" =NG cx
 gp:pg.fns "_law_number" =NG cm
 kJ:pg.fns "_law_record" =NG cN
 m4:pg.fns "_law_lines" =NG dc
 gY:pg.fns "_law_is_figures" =NG aI
 kG:pg.fns "_law_stands" =NG aJ
 om:pg.fns "_law_read" =NG a8
 og:pg.fns "_law_told" =NG (cV aNoLines)
 pK:pg.fns "_law_word" =NG dz
 cB:pg.fns "_law_bent" =NG bw
 Ci:pg.fns "law" =NG sj
 uc:pg.con "MOST_OF_A_SORT" =NG (.int 4)
 G0:pg.con "FIGURES" =NG (.str "0123456789")
 yr:pg.con "MOST_NUMBER" =NG (.int 9999999999999999999999999999999999999999)
 gL:pg.rz=λf=>["number_in", "number_or_none", "read_edge", "read_gifts", "read_record", "words_behind"].contains f
def fnT(aNoLines:Nat):List (String × Df):=[("writes_number",aR),("record_lines",cI),("line_of",fS),("shown_number",bV),("read_record",aQ aNoLines),("read_gifts",b8),("read_edge",bY aNoLines),("words_behind",bI aNoLines),("number_in",cU aNoLines),("number_or_none",bj),("_law_feed",dG),("_law_take",cx),("_law_number",cm),("_law_record",cN),("_law_lines",dc),("_law_is_figures",aI),("_law_stands",aJ),("_law_read",a8),("_law_told",cV aNoLines),("_law_word",dz),("_law_bent",bw),("law",sj)]
noncomputable def conT:List (Str × PV):=[("MOST_OF_A_SORT",(.int 4)),("FIGURES",(.str "0123456789")),("MOST_NUMBER",(.int 9999999999999999999999999999999999999999))]
noncomputable def dcT:List (Str × List (Key × PV)):=[]
def tb(aNoLines:Nat):Tb:=⟨λf=>((fnT aNoLines).find? λp=>p.1 == f).map (·.2),λx=>(conT.find? λp=>decide (p.1=x)).map (·.2),λx=>(dcT.find? λp=>decide (p.1=x)).map (·.2),λ_=>NI,λ_=>NI,λ_=>NI,λf=>["number_in", "number_or_none", "read_edge", "read_gifts", "read_record", "words_behind"].contains f⟩
theorem b9{l:List (String × Df)}(nd:(l.map (·.1)).Nodup)(i:Nat)(e:l[i]?=NG (f,d)):(l.find? λp=>p.1 == f).map (·.2)=NG d:=by
 induction l generalizing i d with
 | nil=>cases e
 | cons x l ih =>
  rw[NR,Rl] at nd
  cases i with
  | zero =>
   simp_all
  | succ i =>
   rw[Ry] at e
   have m:=OV e
   have ne: ¬ (x.1 == f)=true:=λz=>nd.1 (by rw [beq_iff_eq.mp z];exact Pb.mpr ⟨_,m,rfl⟩)
   rw [RM (p:=λp:String × Df=>p.1 == f) ne]
   exact ih nd.2 i e
theorem cg(aNoLines:Nat):((fnT aNoLines).map (·.1)).Nodup:=by show (["writes_number", "record_lines", "line_of", "shown_number", "read_record", "read_gifts", "read_edge", "words_behind", "number_in", "number_or_none", "_law_feed", "_law_take", "_law_number", "_law_record", "_law_lines", "_law_is_figures", "_law_stands", "_law_read", "_law_told", "_law_word", "_law_bent", "law"]:List String).Nodup;decide +kernel
theorem has(aNoLines:Nat):dh aNoLines (tb aNoLines):=⟨b9 (cg aNoLines) 0 rfl,b9 (cg aNoLines) 1 rfl,b9 (cg aNoLines) 2 rfl,b9 (cg aNoLines) 3 rfl,b9 (cg aNoLines) 4 rfl,b9 (cg aNoLines) 5 rfl,b9 (cg aNoLines) 6 rfl,b9 (cg aNoLines) 7 rfl,b9 (cg aNoLines) 8 rfl,b9 (cg aNoLines) 9 rfl,b9 (cg aNoLines) 10 rfl,b9 (cg aNoLines) 11 rfl,b9 (cg aNoLines) 12 rfl,b9 (cg aNoLines) 13 rfl,b9 (cg aNoLines) 14 rfl,b9 (cg aNoLines) 15 rfl,b9 (cg aNoLines) 16 rfl,b9 (cg aNoLines) 17 rfl,b9 (cg aNoLines) 18 rfl,b9 (cg aNoLines) 19 rfl,b9 (cg aNoLines) 20 rfl,b9 (cg aNoLines) 21 rfl,rfl,rfl,rfl,rfl⟩
local macro_rules
 | `(tactic| array_get_dec)=> `(tactic| repeat' first | (show lj _ _ _ _ _ _;first | refine jx ?_ | refine CM ?_ | refine J7 ?_ ?_ ?_ | refine yT (by assumption) rfl ?_ | refine Dy ?_ (λ_ _ _ _ _ _ _=>⟨λ_=>?_,?_,?_⟩) | refine Bp vZ rfl (by decide +kernel) boot_int ?_ | refine Bp rV rfl (by decide +kernel) V2 ?_ | refine Bp vO rfl (by decide +kernel) WB ?_ | refine Bp vf rfl (by decide +kernel) boot_str ?_) | (show Ct _ _ _ _ _ _;first | refine Nu ?_ | exact yU | refine wq ?_ ?_) | (show Dg _ _ _ _ _ _ _;first | refine Na ?_ | refine AS ?_) | (show yi _ _ _ _ _ _;first | refine Nc ?_ | refine t8 (by assumption) rfl ?_ | refine BQ ?_ | refine yQ (by assumption) rfl (by first | exact RX rfl | exact RL rfl) ?_ | refine zw (by assumption) ?_ (λ_ _ _ _ _ _ _=>⟨λ_=>?_,?_,?_⟩) | refine Fq ?_ ?_ ?_) | (show kS _ _ _ _ _ _;first | exact vT | refine xt ?_ | refine uk ?_ ?_) | (show JS _ _ _ _ _;first | refine BE (by assumption) (by assumption) (λ_ _ _=>?_) (o1.h ?_) | refine EW (by assumption) ?_ (λ_ _ _ _ _ _=>⟨λ_=>?_,?_,?_⟩) | refine DK (by assumption) ?_ (λ_ _ _ _ _ _=>⟨λ_=>?_,?_,?_⟩) | refine DX (by assumption) rfl (by first | exact RX rfl | exact RL rfl) ?_ | refine IF ?_ ?_ ?_ | refine CJ ?_ | refine zQ ?_ | refine D1 Hm ?_ ?_ ?_ | refine Fy ?_ ?_ ?_ PassesOwn.never) | (show qf _ _ _;first | exact EM _ | exact CQ | refine D9 ?_ | refine AF (by assumption) (by assumption) (by assumption) ?_ | refine BL (by assumption) (by assumption) Boot.«ValueError» (by assumption) ?_ | refine zZ (by assumption) (by assumption) (by repeat' first | exact trivial | refine RW rfl (RW (by assumption) (RW (by decide) ?_))) (TU rfl) ?_ | refine AG (by assumption) ?_) | (show H9 _ _ _;first | exact zo | refine xr ?_ ?_) | (show El _ _ _;first | refine A5 ?_ ?_ | refine xy ?_) | (show B6 _ _ _;first | refine BI ?_ | refine yS ?_ | refine El.pt ?_) | (show Kg _ _ _;first | refine yW (by assumption) ?_ | refine Eo ?_ ?_ ?_) | (show o1 _ _ _;first | exact u0 | refine yg ?_ | refine ux ?_ ?_) | (show JE _ _ _ _ _;first | exact Du _ | exact CY | exact DH | exact Eh | exact HH | refine IT LF ?_ ?_ (λ_ _=>rfl) | refine AO (by assumption) rfl ?_ | refine Kq ?_ ?_ ?_ | refine D0 ?_ | refine C2 ?_ | refine xP ?_ ?_ ?_ (xV _) | refine xP ?_ ?_ ?_ rfl | refine vo ?_ ?_ ?_ ?_ ?_ | refine FL ?_ ?_ | refine JV ?_ ?_ | refine Dh ?_ | refine xI ?_ ?_ ?_ | refine wL ?_ ?_ ?_ | refine Fm ?_ (λ_ _ _ _ _ _=>⟨λ_=>?_,?_,?_⟩) | refine E8 ?_ (λ_ _ _ _ _ _=>⟨λ_=>?_,?_,?_⟩) | exact GN (by assumption) rfl | refine DR Hh rfl (by decide +kernel) PySem.boot_len ?_ | refine DR HB rfl (by decide +kernel) boot_all ?_ | refine yO vZ rfl (by decide +kernel) boot_int ?_ | refine yO rV rfl (by decide +kernel) V2 ?_ | refine yO vO rfl (by decide +kernel) WB ?_ | refine DR yD rfl (by decide +kernel) boot_repr ?_ | refine yO vf rfl (by decide +kernel) boot_str ?_ | exact su rfl (by decide +kernel) boot_int | exact su rfl (by decide +kernel) boot_str | exact su rfl (by decide +kernel) WB | exact su rfl (by decide +kernel) V2 | refine Bz Ta PySem.F.slot_list_append PySem.F.type_list_append vB ?_ ?_ | refine Bz Ta PySem.F.slot_list_extend PySem.F.type_list_extend v8 ?_ ?_ | refine Bz Tt PySem.F.slot_str_split PySem.F.type_str_split m_split ?_ ?_ | refine Bz Tt PySem.F.slot_str_join PySem.F.type_str_join Ey ?_ ?_) | (show JA _ _ _ _ _;first | exact Fe | refine yG ?_ ?_) | (show uG _ _ _ _ _;first | exact yB | refine zO ?_ | refine wC ?_ ?_) | (show JT _ _ _ _ _;first | refine xO ?_ ?_ ?_ (xV _) | refine xO ?_ ?_ ?_ rfl | refine Gz ?_ | refine uX ?_ ?_ ?_ ?_ ?_ | refine JW.pt (Co ?_ ?_) | refine ET ?_ | refine Dq ?_) | (show JW _ _ _ _ _;first | refine Co ?_ ?_ | refine E2 ?_) | (show JO _ _ _ _ _;first | exact zh | refine zL ?_) | (show JG _ _ _ _ _;first | exact AV (by assumption) rfl (by first | exact RX rfl | exact RL rfl) | refine Ed ?_) | (show Jd _ _ _ _ _;first | exact zg | refine vc ?_ ?_) | (show JI _ _ _ _ _ _;first | refine uA rfl ?_ | refine sV rfl ?_ | refine Ew ?_) | (show JF _ _ _ _ _;first | exact Gd | refine Et ?_) | (show QG _ _ _;first | exact rB (by assumption) rfl (by first | exact RX rfl | exact RL rfl) | refine Br (by assumption) ?_) | (show CI _ _ _;first | exact rR | refine nQ ?_ ?_) | exact Hk | exact zV | exact HP | exact Gb | exact IE | exact HI | exact L8 | exact Ls | exact Lk | exact LL | exact Lu | exact LI | exact yC | exact Eg)
local macro_rules
 | `(tactic| clean_wf)=> `(tactic| (first | refine bS.on (by assumption) ⟨rfl,rfl,rfl,by decide +kernel,rfl,by decide +kernel,by decide +kernel⟩ rfl (λ_ _ _ _ _ _=>by first | exact Le λ_=>rfl | exact KC λ_ _=>rfl | exact MU λ_ _ _=>rfl) (by rw [dh.gL ‹_›];rfl) λ_ _ _ _ _ _ _ _ _ _=>?_ | refine bS.Nw (by assumption) ⟨rfl,rfl,rfl,by decide +kernel,rfl,by decide +kernel,by decide +kernel⟩ rfl (λ_ _ _ _ _ _=>by first | exact Le λ_=>rfl | exact KC λ_ _=>rfl | exact MU λ_ _ _=>rfl) λ_ _ _ _ _ _ _ _ _ _=>?_);obtain ⟨⟩:= ‹dh _ _›; obtain ⟨⟩:= ‹XF _ _ _ _ _ _ _ _ _ _ _›; array_get_dec)
section
variable {P:Om} {w:OC} {K:NH} {mg:Str->Option NJ} {pg:Tb} {aNoLines aLeastError aNoCut aNoFit aNoPaper aNoProgram aNoRow:Nat}
theorem js(T:dh aNoLines pg)(F:XF P w K mg aNoLines aLeastError aNoCut aNoFit aNoPaper aNoProgram aNoRow)(a:At K mg "writes_number" (top 11)):bS P w K mg pg "writes_number" aR (top 11) ["word", "least", "most"]:=by
 have z0:(kH ["word", "least", "most"] ["sign"]).Nodup:=by decide +kernel
 clean_wf
theorem jV(T:dh aNoLines pg)(F:XF P w K mg aNoLines aLeastError aNoCut aNoFit aNoPaper aNoProgram aNoRow)(a:At K mg "record_lines" (top 14)):bS P w K mg pg "record_lines" cI (top 14) ["record", "lines"]:=by
 have z0:(kH ["record", "lines"] ["gifts"]).Nodup:=by decide +kernel
 have z1:(kH ["record", "lines"] ["first", "second"]).Nodup:=by decide +kernel
 clean_wf
theorem tZ(T:dh aNoLines pg)(F:XF P w K mg aNoLines aLeastError aNoCut aNoFit aNoPaper aNoProgram aNoRow)(a:At K mg "line_of" (top 15)):bS P w K mg pg "line_of" fS (top 15) ["word", "numbers"]:=by
 have z0:(kH ["word", "numbers"] ["number"]).Nodup:=by decide +kernel
 clean_wf
theorem j0(T:dh aNoLines pg)(F:XF P w K mg aNoLines aLeastError aNoCut aNoFit aNoPaper aNoProgram aNoRow)(a:At K mg "shown_number" (top 16)):bS P w K mg pg "shown_number" bV (top 16) ["number"]:=by clean_wf
theorem kr(T:dh aNoLines pg)(F:XF P w K mg aNoLines aLeastError aNoCut aNoFit aNoPaper aNoProgram aNoRow)(a:At K mg "read_record" (top 17)):bS P w K mg pg "read_record" (aQ aNoLines) (top 17) ["lines", "upto", "first_edge", "gifts", "edges"]:=by
 have z0:(kH ["lines", "upto", "first_edge", "gifts", "edges"] ["word"]).Nodup:=by decide +kernel
 have z1:(kH ["lines", "upto", "first_edge", "gifts", "edges"] ["row"]).Nodup:=by decide +kernel
 clean_wf
theorem nt(T:dh aNoLines pg)(F:XF P w K mg aNoLines aLeastError aNoCut aNoFit aNoPaper aNoProgram aNoRow)(a:At K mg "read_gifts" (top 18)):bS P w K mg pg "read_gifts" b8 (top 18) ["lines", "row"]:=by
 have z0:(kH ["lines", "row"] ["word"]).Nodup:=by decide +kernel
 clean_wf
theorem ph(T:dh aNoLines pg)(F:XF P w K mg aNoLines aLeastError aNoCut aNoFit aNoPaper aNoProgram aNoRow)(a:At K mg "read_edge" (top 19)):bS P w K mg pg "read_edge" (bY aNoLines) (top 19) ["lines", "row", "numbers"]:=by
 have z0:(kH ["lines", "row", "numbers"] ["word"]).Nodup:=by decide +kernel
 clean_wf
theorem ka(T:dh aNoLines pg)(F:XF P w K mg aNoLines aLeastError aNoCut aNoFit aNoPaper aNoProgram aNoRow)(a:At K mg "words_behind" (top 20)):bS P w K mg pg "words_behind" (bI aNoLines) (top 20) ["lines", "row", "word", "words"]:=by clean_wf
theorem oK(T:dh aNoLines pg)(F:XF P w K mg aNoLines aLeastError aNoCut aNoFit aNoPaper aNoProgram aNoRow)(a:At K mg "number_in" (top 21)):bS P w K mg pg "number_in" (cU aNoLines) (top 21) ["word", "row"]:=by clean_wf
theorem iM(T:dh aNoLines pg)(F:XF P w K mg aNoLines aLeastError aNoCut aNoFit aNoPaper aNoProgram aNoRow)(a:At K mg "number_or_none" (top 22)):bS P w K mg pg "number_or_none" bj (top 22) ["word", "row"]:=by clean_wf
theorem oF(T:dh aNoLines pg)(F:XF P w K mg aNoLines aLeastError aNoCut aNoFit aNoPaper aNoProgram aNoRow)(a:At K mg "_law_feed" (top 24)):bS P w K mg pg "_law_feed" dG (top 24) ["_law_script", "_law_at"]:=by clean_wf
theorem oU(T:dh aNoLines pg)(F:XF P w K mg aNoLines aLeastError aNoCut aNoFit aNoPaper aNoProgram aNoRow)(a:At K mg "_law_take" (top 25)):bS P w K mg pg "_law_take" cx (top 25) ["_law_feed_here", "_law_many", "_law_cell", "_law_mixed", "_law_found"]:=by clean_wf
theorem kF(T:dh aNoLines pg)(F:XF P w K mg aNoLines aLeastError aNoCut aNoFit aNoPaper aNoProgram aNoRow)(a:At K mg "_law_number" (top 26)):bS P w K mg pg "_law_number" cm (top 26) ["_law_feed_here", "_law_way"]:=by clean_wf
theorem ky(T:dh aNoLines pg)(F:XF P w K mg aNoLines aLeastError aNoCut aNoFit aNoPaper aNoProgram aNoRow)(a:At K mg "_law_record" (top 27)):bS P w K mg pg "_law_record" cN (top 27) ["_law_feed_here", "_law_hands", "_law_gifts", "_law_hand", "_law_row", "_law_edges", "_law_k", "_law_four", "_law_upto"]:=by
 have z0:(kH ["_law_feed_here", "_law_hands", "_law_gifts", "_law_hand", "_law_row", "_law_edges", "_law_k", "_law_four", "_law_upto"] ["_law_k"]).Nodup:=by decide +kernel
 have z1:(kH ["_law_feed_here", "_law_hands", "_law_gifts", "_law_hand", "_law_row", "_law_edges", "_law_k", "_law_four", "_law_upto"] ["_law_gift"]).Nodup:=by decide +kernel
 have z2:(kH ["_law_feed_here", "_law_hands", "_law_gifts", "_law_hand", "_law_row", "_law_edges", "_law_k", "_law_four", "_law_upto"] ["_law_j"]).Nodup:=by decide +kernel
 have z3:(kH ["_law_feed_here", "_law_hands", "_law_gifts", "_law_hand", "_law_row", "_law_edges", "_law_k", "_law_four", "_law_upto"] ["_law_hand"]).Nodup:=by decide +kernel
 clean_wf
theorem mB(T:dh aNoLines pg)(F:XF P w K mg aNoLines aLeastError aNoCut aNoFit aNoPaper aNoProgram aNoRow)(a:At K mg "_law_lines" (top 28)):bS P w K mg pg "_law_lines" dc (top 28) ["_law_record_here", "_law_lines_here", "_law_number_here", "_law_gifts", "_law_line", "_law_gift", "_law_one", "_law_other"]:=by clean_wf
theorem gU(T:dh aNoLines pg)(F:XF P w K mg aNoLines aLeastError aNoCut aNoFit aNoPaper aNoProgram aNoRow)(a:At K mg "_law_is_figures" (top 29)):bS P w K mg pg "_law_is_figures" aI (top 29) ["_law_word_here"]:=by
 have z0:(kH ["_law_word_here"] ["_law_sign"]).Nodup:=by decide +kernel
 clean_wf
theorem kR(T:dh aNoLines pg)(F:XF P w K mg aNoLines aLeastError aNoCut aNoFit aNoPaper aNoProgram aNoRow)(a:At K mg "_law_stands" (top 30)):bS P w K mg pg "_law_stands" aJ (top 30) ["_law_row", "_law_words", "_law_hands", "_law_wrong"]:=by
 have z0:(kH ["_law_row", "_law_words", "_law_hands", "_law_wrong"] ["_law_word_here"]).Nodup:=by decide +kernel
 clean_wf
theorem pR(T:dh aNoLines pg)(F:XF P w K mg aNoLines aLeastError aNoCut aNoFit aNoPaper aNoProgram aNoRow)(a:At K mg "_law_read" (top 31)):bS P w K mg pg "_law_read" a8 (top 31) ["_law_lines_here", "_law_hands", "_law_gifts", "_law_edges", "_law_upto", "_law_row", "_law_words", "_law_four"]:=by
 have z0:(kH ["_law_lines_here", "_law_hands", "_law_gifts", "_law_edges", "_law_upto", "_law_row", "_law_words", "_law_four"] ["_law_word_here"]).Nodup:=by decide +kernel
 clean_wf
theorem o6(T:dh aNoLines pg)(F:XF P w K mg aNoLines aLeastError aNoCut aNoFit aNoPaper aNoProgram aNoRow)(a:At K mg "_law_told" (top 32)):bS P w K mg pg "_law_told" (cV aNoLines) (top 32) ["_law_lines_here", "_law_found", "e", "_law_strange"]:=by clean_wf
theorem nV(T:dh aNoLines pg)(F:XF P w K mg aNoLines aLeastError aNoCut aNoFit aNoPaper aNoProgram aNoRow)(a:At K mg "_law_word" (top 33)):bS P w K mg pg "_law_word" dz (top 33) ["_law_feed_here", "_law_some"]:=by clean_wf
theorem n8(T:dh aNoLines pg)(F:XF P w K mg aNoLines aLeastError aNoCut aNoFit aNoPaper aNoProgram aNoRow)(a:At K mg "_law_bent" (top 34)):bS P w K mg pg "_law_bent" bw (top 34) ["_law_feed_here", "_law_lines_here", "_law_at", "_law_way", "_law_words", "_law_spot"]:=by clean_wf
theorem Cb(T:dh aNoLines pg)(F:XF P w K mg aNoLines aLeastError aNoCut aNoFit aNoPaper aNoProgram aNoRow)(a:At K mg "law" (top 35)):bS P w K mg pg "law" sj (top 35) ["_law_script", "_law_feed_here", "_law_k", "_law_record_here", "_law_lines_here", "_law_turn", "_law_some", "_law_more", "_law_kept"]:=by clean_wf
end
set_option maxHeartbeats 1000000
theorem jU: ∀ ss:List Str,bU f (ss.map PV.str)=NG (ss.map O7)
 | []=>rfl
 | x::r=>by rw[NR,bU,jU r];rfl
theorem ij{ss:List Str}(e:h[n]?=NG (.lst (ss.map PV.str))):dat (k+1) h (.ref n)=NG (.list (ss.map O7)):=by
 unfold dat;simp only[gG,e,jU,QB]
theorem ne_nil(e1:h[n]?=NG (.lst (ss.map PV.str)))(e2:h[m]?=NG (.lst []))(ok: ∀ x∈ss,PJ x=true):iz (.ref n) (.ref m) h= .ok (.bl (!decide (ss=[]))) h:=by
 have d1:=ij (k:=5) e1;have d2:=ij (k:=5) (ss:=[]) (n:=m) e2;have sc:iV (.ref n) (.ref m)=false:=rfl;have dp: ∀ xs:List Str,Ub (.list (xs.map O7))=xs.all PJ:=λxs=>by
  rw[Ub,Sa]
 have al:alike (.ref n) (.ref m) h=NG (decide (ss=[])):=by
  unfold alike;rw[sc,d1,d2];have c1:(Qs (ss.map O7)).canLay0=true:=by rw[dp];exact Ow.mpr ok
  have c2:(Qs (([]).map O7)).canLay0=true:=by rfl
  have c3:min (Qs (ss.map O7)).depth (Qs (([]:List Str).map O7)).depth<=64:=N5 (S4 _ _) (by decide);simp only[OL,if_false,c1,c3,if_true];cases ss with
  | nil=>rfl
  | cons x r=>rfl
 have nd:eF h (.ref n)=false:=by simp only[eF,e1]
 unfold iz;rw[al,nd];rfl
theorem eu(e:h[n]?=NG (.lst xs)):kD.gK ⟨NG n,xs⟩ h=true:=by
 unfold kD.gK;simp only[e,true_or,decide_true]
def fw(n:Int):Str:=NP (toString n)
noncomputable def big:Int:=9999999999999999999999999999999999999999
theorem pE: ∀ d:Nat,d < 10->(Nat.digitChar d).toNat=d+48:=by decide +kernel
theorem jf: ∀(cs:List Nat)(k:Nat),0 < k->QQ cs->(Qw 10 (cs.foldl (λacc c=>acc*10+(c - 48)) k)).map Ru=(Qw 10 k).map Ru++cs
 | [],k,_,_=>by simp
 | c::cs,k,hk,h=>by
  obtain⟨h1,h2⟩:=h.head;rw[Rm,jf cs _ (by omega) h.tail];have e:Qw 10 (k*10+(c - 48))=Qw 10 k++Qw 10 (c - 48):=by
   rw[Nat.toDigits_append_toDigits (by decide) hk (by omega),Sj]
  rw[e,Rz (n:=c - 48) (by omega),QC,NR,OG,pE (c - 48) (by omega),N0,Qn,Oo];congr 2;omega
theorem wa: ∀(cs:List Nat)(k n:Nat),QQ cs->k < 10 ^ n->cs.foldl (λacc c=>acc*10+(c - 48)) k < 10 ^ (n+cs.length)
 | [],k,n,_,hk=>hk
 | c::cs,k,n,h,hk=>by
  obtain⟨h1,h2⟩:=h.head;rw[Rm,NK];have:=wa cs (k*10+(c - 48)) (n+1) h.tail (by rw[Vb];omega)
  rwa[show n+(cs.length+1)=n+1+cs.length by omega]
theorem wd{cs:List Nat}(h:QQ cs):Qd cs < 10 ^ cs.length:=by
 have:=wa cs 0 0 h (by decide)
 rwa[Sl] at this
theorem gC: ∀(k n:Nat),n < 10 ^ (k+1)->(Qw 10 n).length<=k+1
 | 0,n,h=>by rw[Rz (by omega)];exact NS _
 | k+1,n,h=>by
  rw[Nat.toDigits_eq_if (by decide)];split
  . simp
  . have:=gC k (n / 10) (by rw[Vb] at h;omega);rw[NX];simp only[NK,N4];omega
theorem gF(m:Nat):(fw (m:Int)).cps.toList=(Qw 10 m).map Ru:=PySem.W.KIN.signs_num m
theorem d8{a b:Str}(e:a.cps.toList=b.cps.toList):a=b:=Str.ext' (Vs.mp e)
theorem BJ{w:Str}(h:QQ w.cps.toList)(ne:w≠ ""):fw (Qd w.cps.toList:Nat)=w↔w= "0" \/w.cps.toList.head?≠NG 48:=by
 have z0:(NP "0").cps.toList=[48]:=by decide +kernel
 cases q:w.cps.toList with
 | nil=>exact absurd (d8 (by rw[q];decide +kernel)) ne
 | cons c t =>
  rw[q] at h
  by_cases c48:c=48
  . subst c48;have hv:Qd (48::t)=Qd t:=rfl;cases t with
    | nil =>
     have e:w= "0" :=d8 (q.trans z0.symm)
     subst e
     exact⟨λ_=> .inl rfl,λ_=>by decide +kernel⟩
    | cons d t =>
     constructor
     . intro e;have e2:=congrArg (λs:Str=>s.cps.toList.length) e;simp only[gF,NU] at e2;rw[q,hv] at e2;have:=gC t.length _ (wd h.tail);simp only[NK] at e2 this;omega
     . rintro (e | e)
       . rw[e,z0] at q;cases q
       . exact absurd rfl e
  . constructor
    . intro _;right;simp only[TK];intro e;exact c48 (OF e)
    . intro _;obtain⟨h1,h2⟩:=h.head;refine d8 ?_;rw[gF,q];show(Qw 10 (t.foldl (λacc c=>acc*10+(c - 48)) (0*10+(c - 48)))).map Ru=_;rw[jf t _ (by omega) h.tail,Rz (by omega),NR,OG,pE _ (by omega)];simp only[Qn,Oo];congr 1;omega
def asc(w:Str):Prop:= ∀ c∈w.cps.toList,c < 128
noncomputable def Ap:Str:= "0123456789"
def dg(c:Nat):Bool:= !(OR Ap ⟨#[c]⟩ 0 Ap.length 1).isEmpty
theorem FC{c:Nat}{h:PH}:A2 (.str ⟨#[c]⟩) (.str Ap) h= .ok (.bl (dg c)) h:=rfl
theorem tX{c:Nat}{h:PH}:iF (.str ⟨#[c]⟩) (.str Ap) h= .ok (.bl (!dg c)) h:=rfl
theorem Gn: ∀ c:Nat,c < 128->dg c=decide (48<=c/\c<=57):=by decide +kernel
def bA(w:Str):Bool:= !decide (w= "")&&(decide (w.length<=40)&&(w.cps.toList.all dg&&(decide (w= "0")|| !decide (w.cps.toList.head?=NG 48))))
noncomputable def jl(w:Str):Int:=(Qd w.cps.toList:Nat)
theorem mE{w:Str}(a:asc w)(h:w.cps.toList.all dg=true):QQ w.cps.toList:=λc m=>by
 have:=Ow.mp h c m;rw[Gn c (a c m),decide_eq_true_eq] at this;exact this
theorem wu{w:Str}(a:asc w)(h:w.cps.toList.all dg=true)(l:w.length<=40):0<=jl w/\jl w<=big:=by
 have h1:=wd (mE a h);have h2:Qd w.cps.toList < 10 ^ 40:=NV h1 (Uc (by decide) l);have h3:(10:Nat) ^ 40=10000000000000000000000000000000000000000:=by decide +kernel
 unfold jl big;omega
theorem mN{w:Str}(a:asc w)(h:w.cps.toList.all dg=true)(l:w.length<=40)(ne:w≠ "")(g:PH):cY [.str w] g= .ok (.int (jl w)) g:=by
 show(if w.length<=640 then _ else _)=_;rw[if_pos (by omega)];have e:T9 w=NG (jl w):=PySem.intText_digits (mE a h) (λz=>ne (d8 (by rw[z];decide +kernel))) (by omega);rw[e]
theorem rX{i:Int}(h0:0<=i)(h9:i<=big):i.natAbs.log2 < 1920:=by
 by_cases z:i.natAbs=0
 . rw[z];decide
 . have h3:(2:Nat) ^ 140=1393796574908163946345982392040522594123776:=by decide +kernel
   have:i.natAbs.log2 < 140:=(WX z).mpr (by rw[h3];unfold big at h9;omega);omega
theorem fT{i:Int}{h:PH}(h0:0<=i)(h9:i<=big):c9 [.int i] h= .ok (.str (fw i)) h:=if_pos (rX h0 h9)
theorem lF{i:Int}(h0:0<=i)(h9:i<=big):(fw i).length<=40/\asc (fw i):=by
 obtain⟨m,rfl⟩:=RA h0;have e:=gF m;constructor
 . have:(fw (m:Int)).length=(fw (m:Int)).cps.toList.length:=rfl;rw[this,e,NU];have h3:(10:Nat) ^ 40=10000000000000000000000000000000000000000:=by decide +kernel
   exact gC 39 m (by rw[h3];unfold big at h9;omega)
 . intro c hc;rw[e] at hc;obtain⟨ch,hch,rfl⟩:=Pb.mp hc;have:=Ws (Nat.isDigit_of_mem_toDigits (by decide) (by decide) hch);have:ch.toNat<=57:=this.2;omega
theorem wN{s:Str}{h:PH}(l:s.length<=100000):bB [.str s] h= .ok (.int s.length) h:=by
 show kN s.length _=_;exact et (by omega)
theorem uf{s:Str}{h:PH}:jW (.str s) h= .ok ⟨NI,s.cps.toList.map λc=> .str ⟨#[c]⟩⟩ h:=rfl
theorem bb{h g:PH}{b:Bool}:P3.settle h (.bl b) (h++g)= .ok (.bl b) h:=bX rfl
end K71
end
section
open PySem L2 P3
local macro_rules
 | `(tactic| simp? [$ls,*])=> `(tactic| simp? (disch:=omega) only [$ls,*])
 | `(tactic| simp? (disch:= $t) only [$ls,*])=> do
  let xs ← ("↓Ii ↓Ij ↓HA ↓HE ↓Hi ↓HX vC ↓Jg F6 ↓Jk EZ Ej ↓Gs AY A4 yz JN zH Bk ↓Hr ↓Hz ↓HS Ik ↓HC FT F8 ↓Jf FF ↓Cd DC GA ↓Ht Ek EY Dk ↓Cu xE ↓Ic ↓yc rP ↓LN GQ ↓Gm BR Ba Af ↓HU D7 FN DO ↓Ie Ef Fz Fs D6 ↓DW ↓Bv wF vR xT wc ↓CW Av y8 Aq Aw ↓zb wO ↓AX ↓sH ↓oW lX k9 ↓FP BK ↓xa rQ et ↓Bb ↓Lp ↓fU ↓Iu DL FZ yP yF z8 ↓DM AU zW Bu zr ↓HN ↓zD w5 ↓Gf yE ↓D5 AZ AE zP yR ↓Gk zF zX Eu pB EI DI Dt EF IZ DJ Dp ↓FV BF Ag yV D8 ↓E3 Bn xA ↓Ei C0 Fu Fv Em Dr ↓GF zp ↓FX zA ↓Kb Fo En Jz Ff Bj y4 y0 Ak CL bR CC pv List.getElem?_cons_zero List.getElem?_cons_succ List.set_cons_zero List.set_cons_succ List.map_cons List.map_nil List.cons_append List.nil_append List.replicate_succ List.replicate_zero List.length_cons List.length_nil AN An m8 A6 tj y7 Am ES Ec Gj BC BO Bq AR L7 LV L9 mJ nk Bh Hl Hd len_T Iq EU IM aF aN tU Bw vM Jr Gi GB Ee AD ↓Cm xJ u9 ↓u3 ↓JM GU Lc D2 uQ Jo List.append_assoc List.length_append Km Jq nF decide_true decide_false Bool.not_true Bool.not_false if_true if_false reduceIte ite_self Bool.false_eq_true String.reduceEq String.reduceNe reduceCtorEq Int.reduceEq Int.reduceNe Int.reduceLT Int.reduceLE Int.reduceSub Int.reduceAdd Int.reduceMul Int.reduceToNat Int.reduceNeg".splitOn " ").toArray.mapM λw=>if w.startsWith "↓" then `(Lean.Parser.Tactic.simpLemma| ↓$(Lean.mkIdent (w.drop 1).toName):term) else `(Lean.Parser.Tactic.simpLemma| $(Lean.mkIdent w.toName):term)
  let ys : Lean.TSyntaxArray [`Lean.Parser.Tactic.simpStar,`Lean.Parser.Tactic.simpErase,`Lean.Parser.Tactic.simpLemma] := ls.getElems ++ xs.map (λx=>⟨x.raw⟩)
  `(tactic| simp (disch:= $t) only [$ys,*])
section
set_option maxHeartbeats 1000000
namespace K71
section
variable{pg:Tb}{aNoLines:Nat}(T:dh aNoLines pg)
include T
theorem tq(j:Nat){h:PH}{w:Str}(a:asc w)(l:w.length<=100000):run pg (j+1) "writes_number" [.str w,.int 0,.int big] h= .ok (.bl (bA w)) h:=by
 have st: ∀ g,c9 [.int big] g= .ok (.str (fw big)) g:=λg=>fT (by decide) (Int.le_refl _);have lb:(fw big).length=40:=by decide +kernel
 have lS:=λg=>wN (h:=g) l;have lS2: ∀ g,bB [.str (fw big)] g= .ok (.int 40) g:=λg=>by rw[wN (by omega),lb];rfl
 rw[run_eq T.jh rfl (by rw[T.gL];rfl)];unfold bA;by_cases ne:w= ""
 . simp? [aR,bu,ne];rfl
 . by_cases l40:w.length<=40
   . have gt: ¬ (40:Int) < (w.length:Int):=by omega
     have lc: ∀ g,P3.eO ⟨NI,w.cps.toList.map λc=> .str ⟨#[c]⟩⟩ (bp 1 (gN 3) aU (aD A2 (aa 3) (eS "0123456789")) (run pg j) [NG (.str w),NG (.int 0),NG (.int big)]) (w.cps.toList.map λc=> .str ⟨#[c]⟩) [] g= .ok ((w.cps.toList.map dg).map PV.bl) g:=λg=>by
      have z:w.cps.toList.length<=40:=l40;refine(cH (α :=Nat) rfl w.cps.toList [] (f:=λc=>NG (.bl (dg c))) (λc mc=>?_) (by simp only[N4];omega)).trans ?_
      . have si: ∀ h,A2 (.str ⟨#[c]⟩) (.str "0123456789") h= .ok (.bl (dg c)) h:=λh=>FC;simp? [si]
      . rw[Oo,Pr,Sn];rfl
     have al:x8 [.ref h.length] (h++[.lst ((w.cps.toList.map dg).map PV.bl)])= .ok (.bl (w.cps.toList.all dg)) (h++[.lst ((w.cps.toList.map dg).map PV.bl)]):=by
      rw[Jc (bs:=w.cps.toList.map dg) aF];simp
     by_cases af:w.cps.toList.all dg=true
     . have it:=mN a af l40 ne;obtain⟨v0,v9⟩:=wu a af l40;have sn: ∀ g,c9 [.int (jl w)] g= .ok (.str (fw (jl w))) g:=λg=>fT v0 v9;have ni:=BJ (mE a af) ne;rw[af] at al;by_cases q:fw (jl w)=w
       . have q2:=ni.mp q;have q3:(decide (w= "0")|| !decide (w.cps.toList.head?=NG 48))=true:=by
          rcases q2 with z | z
          . rw[decide_eq_true z];rfl
          . rw[decide_eq_false z];simp
         simp? [aR,bu,ne,lS,lS2,st,gt,uf,lc,al,it,sn,q,v0,v9,bb];simp only[l40,af,q3,decide_true,Wt]
       . have q2: ¬ (w= "0" \/w.cps.toList.head?≠NG 48):=λz=>q (ni.mpr z);have q3:(decide (w= "0")|| !decide (w.cps.toList.head?=NG 48))=false:=by
          rw[not_or,Decidable.not_not] at q2;rw[decide_eq_false q2.1,decide_eq_true q2.2];rfl
         simp? [aR,bu,ne,lS,lS2,st,gt,uf,lc,al,it,sn,q,v0,v9,bb];simp only[q3,P6]
     . rw[Qq] at af;rw[af] at al;simp? [aR,bu,ne,lS,lS2,st,gt,uf,lc,al,bb];simp only[af,Pq,P6]
   . have gt:(40:Int) < (w.length:Int):=by omega
     simp? [aR,bu,ne,lS,lS2,st,gt,bb];simp only[l40,decide_false,Pq,P6]
theorem kK(j:Nat){h:PH}{w:Str}(a:asc w)(l:w.length<=100000):run pg (j+1) "_law_is_figures" [.str w] h= .ok (.bl (bA w)) h:=by
 have lS:=λg=>wN (h:=g) l;rw[run_eq T.gY rfl (by rw[T.gL];rfl)];unfold bA;by_cases ne:w= ""
 . simp? [aI,a9,ne];rfl
 . by_cases l40:w.length<=40
   . have gt: ¬ (40:Int) < (w.length:Int):=by omega
     have z:w.cps.toList.length<=40:=l40
     let F:List Str:=(w.cps.toList.filter λc=> !dg c).map λc=>⟨#[c]⟩
     have lc: ∀ g,P3.eO ⟨NI,w.cps.toList.map λc=> .str ⟨#[c]⟩⟩ (bp 1 (gN 1) (aV (aD iF (aa 1) (eS "0123456789"))) (aa 1) (run pg j) [NG (.str w)]) (w.cps.toList.map λc=> .str ⟨#[c]⟩) [] g= .ok (F.map PV.str) g:=λg=>by
      refine(cH (α :=Nat) rfl w.cps.toList [] (f:=λc=>if dg c=true then NI else NG (.str ⟨#[c]⟩)) (λc mc=>?_) (by simp only[N4];omega)).trans ?_
      . have si: ∀ h,iF (.str ⟨#[c]⟩) (.str "0123456789") h= .ok (.bl (!dg c)) h:=λh=>tX;cases q:dg c
        . rw[q] at si;simp? [si]
        . rw[q] at si;simp? [si]
      . rw[Oo];congr 1;show _=((w.cps.toList.filter λc=> !dg c).map λc=>(⟨#[c]⟩:Str)).map PV.str;generalize w.cps.toList=L
        induction L with
        | nil=>rfl
        | cons c L ih=>cases q:dg c<;>simp[q,ih]
     have ok: ∀ x∈F,PJ x=true:=λx m=>by
      obtain⟨c,mc,rfl⟩:=Pb.mp m;have:=a c (PR.mp mc).1;have:decide (c < 1114112)=true:=decide_eq_true (by omega);unfold PJ;simp[this]
     have nn:iz (.ref h.length) (.ref (h.length+(0+1))) (h++[.lst (F.map PV.str),.lst []])= .ok (.bl (!decide (F=[]))) (h++[.lst (F.map PV.str),.lst []]):=ne_nil (by rw[aF]) (by rw[aN];rfl) ok;have fi:F=[]↔w.cps.toList.all dg=true:=by
      show(w.cps.toList.filter λc=> !dg c).map _=[]↔_;rw[List.map_eq_nil_iff,RN,Ow];simp
     by_cases af:w.cps.toList.all dg=true
     . have e0:=fi.mpr af;obtain⟨c,t,q⟩: ∃ c t,w.cps.toList=c::t:=by
        cases q:w.cps.toList with
        | nil=>exact absurd (d8 (by rw[q];decide +kernel)) ne
        | cons c t=>exact⟨c,t,rfl⟩
       have ix: ∀ g,fP (.str w) (.int 0) g= .ok (.str ⟨#[c]⟩) g:=λg=>by
        show kN w.length (match fE w.cps.toList 0 with | some c=>RV.ok (PV.str ⟨#[c]⟩) g | none=> .no)=_;rw[et (by omega),q,show fE (c::t) 0=NG c from P3.cO (n:=0) rfl rfl]
       have s48:NP "0" =⟨#[48]⟩:=by decide +kernel
       have e48:((⟨#[c]⟩:Str)= "0")↔c=48:=by rw[s48];simp
       have h48:w.cps.toList.head?=NG 48↔c=48:=by rw[q];simp
       rw[decide_eq_true e0] at nn;by_cases z0:w= "0"
       . have z1:=eq_true z0;simp? [aI,a9,ne,lS,gt,uf,lc,nn,z1,bb];simp only[l40,af,decide_true,Ri,U6]
       . simp? [aI,a9,ne,lS,gt,uf,lc,nn,z0,ix,bb];simp only[e48,h48,l40,af,decide_true,decide_false,Ri,Bool.false_or]
     . have e0: ¬ F=[]:=λz=>af (fi.mp z);simp? [aI,a9,ne,lS,gt,uf,lc,nn,e0,bb];rw[Qq] at af;simp only[af,Pq,P6]
   . have gt:(40:Int) < (w.length:Int):=by omega
     simp? [aI,a9,ne,lS,gt,bb];simp only[l40,decide_false,Pq,P6]
end
theorem blank_eq:NP " " =⟨#[32]⟩:=by decide +kernel
noncomputable def jn(ws:List Str):Str:=V0 " " ws
theorem sG(ws:List Str):jn ws=Str.join ⟨#[32]⟩ ws:=by unfold jn;rw[blank_eq];exact StrLaws.glued_eq_join _ _
theorem app_list(a b:Str):(a++b).cps.toList=a.cps.toList++b.cps.toList:=by rw[Str.cps_append,Array.toList_append]
theorem dy(a b:Str):(a++b).length=a.length+b.length:=by
 show(a++b).cps.toList.length=a.cps.toList.length+b.cps.toList.length;rw[app_list,NX]
theorem iL(a b c:Str):a++b++c=a++(b++c):=d8 (by simp only[app_list,N0])
theorem iN(w:Str):jn [w]=w:=by rw[sG];rfl
theorem gM(p q:Str)(r:List Str):jn (p::q::r)=p++ " " ++jn (q::r):=by rw[sG,sG,blank_eq];rfl
theorem Gu(p x:Str)(r:List Str):jn ((p++x)::r)=p++jn (x::r):=by
 cases r with
 | nil=>rw[iN,iN]
 | cons y r=>rw[gM,gM,iL,iL,iL]
theorem rW: ∀(ws:List Str)(a:Str),jn (a::ws)=ws.foldl (λ(a x:Str)=>a++ " " ++x) a
 | [],a=>iN a
 | x::ws,a=>by rw[Rm,<- rW ws,gM,Gu]
theorem u7: ∀{ws:List Str},ws.length<=(jn ws).length+1/\ ∀ w∈ws,w.length<=(jn ws).length/\ ∀ c∈w.cps.toList,c∈(jn ws).cps.toList
 | []=>⟨OU _,λw m=>nomatch m⟩
 | [w]=>⟨by simp,λv m=>by rw[Od.mp m,iN];exact⟨NS _,λc mc=>mc⟩⟩
 | p::q::r=>by
  obtain⟨h1,h2⟩:=u7 (ws:=q::r);have l1:(NP " ").length=1:=by decide +kernel
  have l:(jn (p::q::r)).length=p.length+1+(jn (q::r)).length:=by rw[gM,dy,dy,l1]
  refine⟨by rw[l];simp only[NK] at h1 ⊢; omega,λw m=>?_⟩;rw[l,gM];rcases Ot.mp m with rfl | m
  . exact⟨by omega,λc mc=>by rw[app_list,app_list];exact O4 _ (O4 _ mc)⟩
  . obtain⟨a,b⟩:=h2 w m;exact⟨by omega,λc mc=>by rw[app_list];exact N9 _ (b c mc)⟩
noncomputable def aE(x:Str):List Str:=PB x " "
theorem ef(x:Str):aE x≠[]:=by
 unfold aE PB;split
 . simp
 . split
   . simp
   . rw[StrLaws.partsBetween_eq];obtain⟨p,r,e⟩:=StrLaws.partsFrom_ne x (NP " ").length 0 (OR x " " 0 x.length (x.length+1));rw[e];simp
theorem wK(x:Str):jn (aE x)=x:=by rw[sG];unfold aE;rw[blank_eq];exact StrLaws.join_split _ _
def Tx(n:Nat)(x:Str):Prop:=asc x/\x.length<=n
theorem Tx.mono{n m:Nat}{x:Str}(h:Tx n x)(l:n<=m):Tx m x:=⟨h.1,N5 h.2 l⟩
theorem Tx.aE{n:Nat}{x:Str}(h:Tx n x):(aE x).length<=n+1/\ ∀ w∈aE x,Tx n w:=by
 have j:=u7 (ws:=K71.aE x);rw[wK] at j;exact⟨by have:=j.1;have:=h.2;omega,λw m=>⟨λc mc=>h.1 c ((j.2 w m).2 c mc),N5 (j.2 w m).1 h.2⟩⟩
theorem Tx.ok{n:Nat}{x:Str}(h:Tx n x):PJ x=true:=by
 unfold PJ;rw[Array.all_eq_true'];intro c m;have:=h.1 c (by simpa using m);simp;omega
theorem Tx.app{n m:Nat}{x y:Str}(h:Tx n x)(k:Tx m y):Tx (n+m) (x++y):=⟨λc mc=>by
 rw[app_list] at mc;rcases ON.mp mc with z | z
 . exact h.1 c z
 . exact k.1 c z,by rw[dy];have:=h.2;have:=k.2;omega⟩
instance {n:Nat} {x:Str}:Decidable (Tx n x):=by unfold Tx asc;infer_instance
theorem wM:Tx 1 " " :=by decide +kernel
theorem Tx.jn: ∀{ws:List Str}{n:Nat},(∀ w∈ws,Tx n w)->Tx (ws.length*(n+1)) (jn ws)
 | [],n,_=>⟨λc m=>absurd m (by rw[show(K71.jn []).cps.toList=[] by decide +kernel];simp),by rw[show(K71.jn []).length=0 by decide +kernel];exact OU _⟩
 | [w],n,h=>by rw[iN];exact(h w N1).mono (by simp)
 | p::q::r,n,h=>by
  have i:=Tx.jn (ws:=q::r) λw m=>h w (NW _ m);rw[gM];exact(((h p N1).app wM).app i).mono (by simp only[NK];rw[Ud (r.length+1) 1];omega)
theorem dZ{n:Nat}{x:Str}{h:PH}(t:Tx n x)(l:n<=100000):dP (.str x) [.str " "] h= .ok (.ref h.length) (h++[.lst ((aE x).map PV.str)]):=by
 have:=t.aE.1;have:=t.2;exact zN (by decide +kernel) (by omega) (show(aE x).length<=_ by omega)
theorem zv{ws:List Str}{n:Nat}(h: ∀ w∈ws,w.length<=n)(l:ws.length*(n+1)<=1000000):WK (NP " ") ws=true:=by
 refine R6 ?_ (by decide +kernel);have: ∀{ws:List Str},(∀ w∈ws,w.length<=n)->(ws.map Tu).sum<=ws.length*n:=λ{ws}=>by
  induction ws with
  | nil=>intro _;simp
  | cons x r ih =>
   intro h
   have:=ih λw m=>h w (NW _ m)
   have:=h x N1
   simp only[NR,List.sum_cons,NK]
   rw[Ud];omega
 have:=this h;rw[Nat.mul_add] at l;show(ws.map Tu).sum+ws.length<=1048576;omega
abbrev tI(C:Nat)(r:Nat)(h:PH):RV PV:= .ex C [("row",.int r)] h
def wb(ls:List Str)(r:Nat)(w:Str):Option (List Str):=(ls[r]?).bind λx=>if (aE x).head?=NG w then NG (aE x).tail else NI
def uM(n:Nat)(ls:List Str):Prop:=ls.length<=1000/\ ∀ x∈ls,Tx n x
theorem pb{ws:List Str}:cS (ws.map PV.str) (NG 1) NI=ws.tail.map PV.str:=by
 rw[P3.gS (by decide)];cases ws<;>rfl
theorem G7{h:PH}{C:Nat}{f:Str}{i:Int}:cF h C [(f,.int i)] h= .ex C [(f,.int i)] h:=by
 have:=iW (h:=h) (g:=[]) (C:=C) (us:=[(f,.int i)]) rfl
 rwa[Ov] at this
theorem zC{h g:PH}{C:Nat}{f:Str}{i:Int}:cF h C [(f,.int i)] (h++g)= .ex C [(f,.int i)] h:=iW (us:=[(f,.int i)]) rfl
section
variable{pg:Tb}{aNoLines:Nat}(T:dh aNoLines pg)
include T
theorem gR(j:Nat){h:PH}{w:Str}{n:Nat}(r:Nat)(t:Tx n w)(l:n<=100000):run pg (j+2) "number_in" [.str w,.int r] h=if bA w=true then .ok (.int (jl w)) h else tI aNoLines r h:=by
 have w1:=λg=>tq T j (h:=g) t.1 (N5 t.2 l);unfold big at w1;rw[fQ T.pD rfl (by rw[T.gL];rfl)];by_cases f:bA w=true
 . have f':=f;unfold bA at f';simp only[N7,QM,decide_eq_false_iff_not,decide_eq_true_eq] at f';have it:=mN t.1 f'.2.2.1 f'.2.1 f'.1;rw[f] at w1;simp? [cU,fG,w1,it,f]
 . rw[Qq] at f;rw[f] at w1;simp? [cU,fG,w1,f];exact G7
theorem mV(j:Nat){h:PH}{w:Str}{n:Nat}(r:Nat)(t:Tx n w)(l:n<=100000):run pg (j+3) "number_or_none" [.str w,.int r] h=if w= "-" then .ok .non h else if bA w=true then .ok (.int (jl w)) h else tI aNoLines r h:=by
 have w1:=λg=>gR T j (h:=g) r t l;rw[fQ T.iA rfl (by rw[T.gL];rfl)];by_cases z:w= "-"
 . simp? [bj,b7,z]
 . by_cases f:bA w=true
   . simp only[f,eq_self,if_true] at w1;simp? [bj,b7,z,w1,f]
   . rw[Qq] at f;simp only[f,OL,if_false] at w1;simp? [bj,b7,z,w1,f];exact G7
theorem iG(j:Nat){h:PH}{n m:Nat}{ls:List Str}(e:h[n]?=NG (.lst (ls.map PV.str)))(t:uM m ls)(l:m<=10000){r:Nat}(hr:r<=ls.length)(w:Str) :
  run pg (j+1) "words_behind" [.ref n,.int r,.str w] h=match wb ls r w,ls[r]? with
   | some ws,NG x=> .ok (.ref (h.length+1)) (h++[.lst ((aE x).map PV.str),.lst (ws.map PV.str)])
   | _,_=>tI aNoLines r h:=by
 rw[fQ T.jD rfl (by rw[T.gL];rfl)];have ln:bB [.ref n] h= .ok (.int ls.length) h:=by rw[j7 (xs:=ls.map PV.str) e,NU]
 by_cases z:r=ls.length
 . have z1:=eq_true (show(r:Int)=(ls.length:Int) by omega);have z2:ls[r]?=NI:=QJ (by omega);have hb:wb ls r w=NI:=by simp only[wb,z2,Option.bind_none]
   rw[hb];simp? [bI,cD,ln,z1];exact G7
 . have z1: ¬ (r:Int)=(ls.length:Int):=by omega
   obtain⟨x,ex⟩: ∃ x,ls[r]?=NG x:=⟨_,OB (by omega)⟩
   have tx:=t.2 x (OV ex);have sp:=dZ (h:=h) tx (by omega);have ix:fP (.ref n) (.int r) h= .ok (.str x) h:=by
    rw[mJ,e,nk];rw[P3.cO rfl (by rw[OD,ex];rfl)];rfl
   obtain⟨p,q,ew⟩: ∃ p q,aE x=p::q:=by
    cases y:aE x with
    | nil=>exact absurd y (ef x)
    | cons p q=>exact⟨p,q,rfl⟩
   have e2:(h++[PO.lst ((aE x).map PV.str)])[h.length]?=NG (.lst ((aE x).map PV.str)):=aF;have i0:fP (.ref h.length) (.int 0) (h++[.lst ((aE x).map PV.str)])= .ok (.str p) (h++[.lst ((aE x).map PV.str)]):=by
    rw[mJ,e2,nk,ew,NR,fC];rfl
   have sl:zI (.ref h.length) (NG 1) NI (h++[.lst ((aE x).map PV.str)])= .ok (.ref (h.length+1)) (h++[.lst ((aE x).map PV.str),.lst ((aE x).tail.map PV.str)]):=by
    rw[D2,e2,uQ,pb,NX,N0];rfl
   by_cases y:p=w
   . have hb:wb ls r w=NG (aE x).tail:=by simp only[wb,ex,OE,ew,TK,y,if_true]
     rw[hb,ex];simp? [bI,cD,ln,z1,fU,pz,bD,ix,sp,i0,y,sl];exact bC rfl
   . have hb:wb ls r w=NI:=by simp only[wb,ex,OE,ew,TK,RJ,y,if_false]
     rw[hb];simp? [bI,cD,ln,z1,fU,pz,bD,ix,sp,i0,y];exact zC
end
theorem Ly{α :Type}{it:kD}{h:PH}(fi:it.gK h=true){st:PV->PH->RV (Option PV)}{g: α ->PV}{f: α ->Option PV}{C:Nat}{us: α ->List (Str × PV)}: ∀(l:List α)(ys:List PV),(∀ x∈l,st (g x) h=match f x with | some v=> .ok (NG v) h | none=> .ex C (us x) h)->l.length+ys.length<=16777216->P3.eO it st (l.map g) ys h=match l.find? (λx=>(f x).isNone) with | none=> .ok (ys++l.filterMap f) h | some x=> .ex C (us x) h
 | [],ys,_,_=>by rw[OG,P3.eO,if_pos fi,V3];simp
 | x::xs,ys,hs,hl=>by
  have hl':ys.length < NZ:=by rw[NK] at hl;show ys.length < 16777216;omega
  rw[NR,P3.eO,if_pos ⟨fi,hl'⟩,hs x N1];cases q:f x with
  | none=>rw[Tv (by rw[q];rfl)];rfl
  | some y =>
   rw[RM (by rw[q];simp),d6]
   refine(Ly fi xs (ys++[y]) (λz m=>hs z (NW _ m)) (by rw[NK] at hl;simp;omega)).trans ?_
   rw[OH q,N0];rfl
theorem pP{α :Type}{l:List α}{p q: α ->Bool}(h: ∀ x∈l,p x= !q x):(l.all q=true->l.find? p=NI)/\(l.all q=false-> ∃ x∈l,l.find? p=NG x):=by
 constructor
 . intro a;rw[UQ];intro x m;rw[h x m,Ow.mp a x m];simp
 . intro a;cases e:l.find? p with
   | some x=>exact⟨x,Pc e,rfl⟩
   | none =>
    rw[UQ] at e
    have:l.all q=true:=Ow.mpr λx m=>by have:=e x m;rw[h x m] at this;simpa using this
    rw[this] at a;cases a
def cq(w:Str):PV:=if w= "-" then .non else .int (jl w)
def cz(w:Str):Bool:=decide (w= "-")||bA w
def gf(ls:List Str)(r:Nat):Option (List Str):=(wb ls r "gifts").bind λws=>if ws.all cz=true then NG ws else NI
def ed(ls:List Str)(r:Nat):Option (List Str):=(wb ls r "edge").bind λws=>if ws.all bA=true/\ws.length=4 then NG ws else NI
def up(ls:List Str):Option (List Str):=(wb ls 0 "upto").bind λws=>if ws.all bA=true/\1<=ws.length/\ws.length<=4 then NG ws else NI
def c5(w:Str):PV:= .int (jl w)
def iZ(ws:List Str):PV:= .tup [.tup ((ws.map c5).take 2),.tup ((ws.map c5).drop 2)]
theorem dI{ls:List Str}{r:Nat}{w:Str}{ws:List Str}(e:wb ls r w=NG ws): ∃ x,ls[r]?=NG x/\ws=(aE x).tail:=by
 unfold wb at e;cases q:ls[r]? with
 | none=>rw[q] at e;nomatch e
 | some x =>
  rw[q,OE] at e
  split at e
  . cases e;exact⟨x,rfl,rfl⟩
  . nomatch e
theorem lP{ls:List Str}{r m:Nat}{w:Str}{ws:List Str}(t:uM m ls)(e:wb ls r w=NG ws):ws.length<=m+1/\ ∀ v∈ws,Tx m v:=by
 obtain⟨x,ex,rfl⟩:=dI e;obtain⟨a,b⟩:=(t.2 x (OV ex)).aE;exact⟨by rw[PD];omega,λv mv=>b v (QX mv)⟩
theorem fK: ∀{l:List Str}{f:Str->PV},(∀ x,(f x).flat=true)->PV.bF (l.map f)=true
 | [],_,_=>rfl
 | x::l,f,h=>by rw[NR,PV.bF,h x,fK h];rfl
theorem lh(w:Str):(cq w).flat=true:=by unfold cq;split<;>rfl
section
variable{pg:Tb}{aNoLines:Nat}(T:dh aNoLines pg)
include T
theorem kX(j:Nat){h:PH}{n m:Nat}{ls:List Str}(e:h[n]?=NG (.lst (ls.map PV.str)))(t:uM m ls)(l:m<=10000){r:Nat}(hr:r<=ls.length) :
  run pg (j+4) "read_gifts" [.ref n,.int r] h=match gf ls r with
   | some ws=> .ok (.tup (ws.map cq)) h
   | none=>tI aNoLines r h:=by
 rw[fQ T.mq rfl (by rw[T.gL];rfl)];have b:=iG T (j+2) e t l hr "gifts";unfold gf;cases q:wb ls r "gifts" with
 | none =>
  rw[q] at b
  simp? [b8,de,b]
  exact G7
 | some ws =>
  obtain⟨x,ex,ew⟩:=dI q
  obtain⟨w1,w2⟩:=lP t q
  rw[q,ex] at b
  have fi:kD.gK ⟨NG (h.length+1),ws.map PV.str⟩ (h++[.lst ((aE x).map PV.str),.lst (ws.map PV.str)])=true:=eu (by rw[aN];rfl)
  have lc:=Ly fi (st:=bp 1 (nG (gN 2)) (nT aU) (ai "number_or_none" (nA (a2 (aa 2) (aa 1)))) (run pg (j+3)) [NG (.ref n),NG (.int r)]) (g:=PV.str) (f:=λw=>if cz w=true then NG (cq w) else NI) (C:=aNoLines) (us:=λ_=>[("row",.int r)]) ws [] (λw mw=>by
   have nm:=λg=>mV T j (h:=g) r (w2 w mw) (by omega);unfold cz cq;by_cases z:w= "-"
   . simp only[z,if_true] at nm;simp? [nm,z,U6]
   . by_cases f:bA w=true
     . simp only[z,f,eq_self,if_true,if_false] at nm;simp? [nm,z,f,WJ]
     . rw[Qq] at f;simp only[z,f,OL,if_false] at nm;simp? [nm,z,f,Wu]) (by simp only[N4];omega)
  obtain⟨f1,f2⟩:=pP (l:=ws) (p:=λw=>((if cz w=true then NG (cq w) else NI:Option PV)).isNone) (q:=cz) (λw _=>by cases cz w<;>rfl)
  cases a:ws.all cz with
  | true =>
   rw[f1 a,Oo,show ws.filterMap (λw=>if cz w=true then NG (cq w) else NI)=ws.map cq from by
    have:=Ow.mp a
    clear a f1 f2 lc fi w1 w2 ew q b
    induction ws with
    | nil=>rfl
    | cons w ws ih=>rw[OH (b:=cq w) (by rw[this w N1];rfl),NR,ih λv mv=>this v (NW _ mv)]] at lc
   simp? [b8,de,b,lc]
   simp only[OE,a,if_true]
   exact bX (by rw[PV.flat];exact fK lh)
  | false =>
   obtain⟨v,_,fv⟩:=f2 a
   rw[fv] at lc
   simp? [b8,de,b,lc]
   simp only[OE,a,OL,if_false]
   exact zC
end
theorem Mp{α :Type}{it:kD}{h:PH}(fi:it.gK h=true){st:PV->PH->RV (Option PV)}{g: α ->PV}{f: α ->Option PV}{C:Nat}{us: α ->List (Str × PV)}: ∀(l:List α)(ys:List PV),(∀ l1 x l2,l=l1++x::l2->(∀ y∈l1,(f y).isSome=true)->st (g x) h=match f x with | some v=> .ok (NG v) h | none=> .ex C (us x) h)->l.length+ys.length<=16777216->P3.eO it st (l.map g) ys h=match l.find? (λx=>(f x).isNone) with | none=> .ok (ys++l.filterMap f) h | some x=> .ex C (us x) h
 | [],ys,_,_=>by rw[OG,P3.eO,if_pos fi,V3];simp
 | x::xs,ys,hs,hl=>by
  have hl':ys.length < NZ:=by rw[NK] at hl;show ys.length < 16777216;omega
  rw[NR,P3.eO,if_pos ⟨fi,hl'⟩,hs [] x xs rfl λy m=>nomatch m];cases q:f x with
  | none=>rw[Tv (by rw[q];rfl)];rfl
  | some y =>
   rw[RM (by rw[q];simp),d6]
   refine(Mp fi xs (ys++[y]) (λl1 z l2 e m=>hs (x::l1) z l2 (by rw[e];rfl) (N8.mpr ⟨by rw[q];rfl,m⟩)) (by rw[NK] at hl;simp;omega)).trans ?_
   rw[OH q,N0];rfl
theorem LB{h:PH}{xs0:List PV}{st:PV->PH->RV (Option PV)}{lo:Int}{f:Nat->Option PV}{C:Nat}{us:Nat->List (Str × PV)}(n:Nat)(hn:n<=100000)(hs: ∀ i,i < n->(∀ k,k < i->(f k).isSome=true)->st (.int (lo+(i:Int))) h=match f i with | some v=> .ok (NG v) h | none=> .ex C (us i) h) :
  P3.eO ⟨NI,xs0⟩ st (aw lo n) [] h=match (Oa n).find? (λx=>(f x).isNone) with | none=> .ok ((Oa n).filterMap f) h | some x=> .ex C (us x) h:=by
 have k:=Mp (it:=⟨NI,xs0⟩) (h:=h) rfl (st:=st) (g:=λi:Nat=>PV.int (lo+(i:Int))) (f:=f) (C:=C) (us:=us) (Oa n) [] (λl1 x l2 e m=>by
  have hx:x=l1.length:=by
   have:=congrArg (λl:List Nat=>l[l1.length]?) e;simp only[Oz (NS _),RO,RB] at this;obtain⟨_,q⟩:=NN.mp this;rw[List.getElem_range] at q;exact q.symm
  have hl:x < n:=by
   have:=congrArg WT e;rw[PN,NX,NK] at this;omega
  refine hs x hl λk hk=>m k ?_;have:=congrArg (λl:List Nat=>l[k]?) e;simp only[N3 (show k < l1.length by omega)] at this;rw[Uv (by omega)] at this;exact OV this.symm) (by rw[PN];simp only[N4];omega)
 rw[Oo] at k;unfold P3.aw;refine k.trans ?_;cases(Oa n).find? λx=>(f x).isNone<;>rfl
theorem vP{q:Str->Bool}{f:Str->PV}: ∀{ws:List Str},ws.all q=true->ws.filterMap (λw=>if q w=true then NG (f w) else NI)=ws.map f
 | [],_=>rfl
 | w::ws,a=>by
  rw[QD,N7] at a;rw[OH (b:=f w) (by rw[a.1];rfl),NR,vP a.2]
section
variable{pg:Tb}{aNoLines:Nat}(T:dh aNoLines pg)
include T
theorem rC(j:Nat){h:PH}{m i:Nat}(i9:i<=5){E:aG}{x:Str}{ws:List Str}(w1:ws.length<=m+1)(w2: ∀ v∈ws,Tx m v)(l:m<=10000){r:Nat}{er:ME}(hE:E.length=i)(he: ∀ w g,er (run pg (j+2)) (E++[NG w]) g= .ok (.int r) g) :
  P3.eO ⟨NG (h.length+1),ws.map PV.str⟩ (bp 1 (nG (gN i)) (nT aU) (ai "number_in" (nA (a2 (aa i) er))) (run pg (j+2)) E) (ws.map PV.str) [] (h++[.lst ((aE x).map PV.str),.lst (ws.map PV.str)]) =
   if ws.all bA=true then .ok (ws.map c5) (h++[.lst ((aE x).map PV.str),.lst (ws.map PV.str)]) else .ex aNoLines [("row",.int r)] (h++[.lst ((aE x).map PV.str),.lst (ws.map PV.str)]):=by
 have fi:kD.gK ⟨NG (h.length+1),ws.map PV.str⟩ (h++[.lst ((aE x).map PV.str),.lst (ws.map PV.str)])=true:=eu (by rw[aN];rfl);refine(Ly fi (g:=PV.str) (f:=λw=>if bA w=true then NG (c5 w) else NI) (C:=aNoLines) (us:=λ_=>[("row",.int r)]) ws [] (λw mw=>?_) (by simp only[N4];omega)).trans ?_
 . have nm:=λg=>gR T j (h:=g) r (w2 w mw) (by omega);have gn: ∀ g,gN i (.str w) (E++[NI]) g= .ok (E++[NG (.str w)]) g:=λg=>by
    rw[pB];simp[<- hE]
   have vi:(E++[NG (PV.str w)])[i]?=NG (NG (.str w)):=by rw[<- hE];simp
   have he':=λg=>he (.str w) g;by_cases f:bA w=true
   . simp only[f,eq_self,if_true] at nm;simp? [gn,vi,he',nm,f,c5]
   . rw[Qq] at f;simp only[f,OL,if_false] at nm;simp? [gn,vi,he',nm,f]
 . obtain⟨f1,f2⟩:=pP (l:=ws) (p:=λw=>((if bA w=true then NG (c5 w) else NI:Option PV)).isNone) (q:=bA) (λw _=>by cases bA w<;>rfl);cases a:ws.all bA with
   | true=>rw[f1 a,Oo,vP a];rfl
   | false =>
    obtain⟨v,_,fv⟩:=f2 a
    rw[fv];rfl
theorem mf(j:Nat){h:PH}{n m:Nat}{ls:List Str}(e:h[n]?=NG (.lst (ls.map PV.str)))(t:uM m ls)(l:m<=10000){r:Nat}(hr:r<=ls.length) :
  run pg (j+4) "read_edge" [.ref n,.int r] h=match ed ls r with
   | some ws=> .ok (iZ ws) h
   | none=>tI aNoLines r h:=by
 rw[fQ T.oY rfl (by rw[T.gL];rfl)];have b:=iG T (j+2) e t l hr "edge";unfold ed;cases q:wb ls r "edge" with
 | none =>
  rw[q] at b
  simp? [bY,cX,b]
  exact G7
 | some ws =>
  obtain⟨x,ex,ew⟩:=dI q
  obtain⟨w1,w2⟩:=lP t q
  rw[q,ex] at b
  have lc:=rC T (j+1) (h:=h) (i:=3) (by omega) (E:=[NG (.ref n),NG (.int r),NI]) (x:=x) w1 w2 l (r:=r) (er:=aa 1) rfl (λ_ _=>rfl)
  cases a:ws.all bA with
  | true =>
   simp only[a,if_true] at lc
   have ln: ∀ g,bB [.tup (ws.map c5)] g= .ok (.int ws.length) g:=λg=>by rw[len_T,NU]
   by_cases z:ws.length=4
   . have z1:=eq_true (show(ws.length:Int)=4 by omega);have c1:cS (ws.map c5) NI (NG 2)=(ws.map c5).take 2:=P3.m6 (by decide);have c2:cS (ws.map c5) (NG 2) NI=(ws.map c5).drop 2:=P3.gS (by decide);simp? [bY,cX,b,lc,ln,z1,c1,c2];simp only[OE,a,z,and_self,if_true];exact bX (by
      have k:PV.bF (ws.map c5)=true:=fK λ_=>rfl;rcases ws with _ | ⟨w1,_ | ⟨w2,_ | ⟨w3,_ | ⟨w4,_ | ⟨_,_⟩⟩⟩⟩⟩<;>first | rfl | cases z)
   . have z1: ¬ (ws.length:Int)=4:=by omega
     simp? [bY,cX,b,lc,ln,z1];simp only[OE,z,and_false,if_false];exact zC
  | false =>
   simp only[a,OL,if_false] at lc
   simp? [bY,cX,b,lc]
   simp only[OE,a,OL,false_and,if_false]
   exact zC
end
def fY(ls:List Str)(i:Nat):Option PV:=(gf ls (1+i)).map λws=> .tup (ws.map cq)
def jk(ls:List Str)(k i:Nat):Option PV:=(ed ls (1+k+i)).map iZ
def mH(ls us:List Str):PV:= .tup [.tup (us.map c5),.tup ((Oa us.length).filterMap (fY ls)),.tup ((Oa (ls.length - (1+us.length))).filterMap (jk ls us.length))]
def rr(ls:List Str):Nat ⊕ PV:=match up ls with
 | none=> .inl 0
 | some us=>match (Oa us.length).find? (λi=>(fY ls i).isNone) with
  | some i=> .inl (1+i)
  | none=>match (Oa (ls.length - (1+us.length))).find? (λi=>(jk ls us.length i).isNone) with
   | some i=> .inl (1+us.length+i)
   | none=> .inr (mH ls us)
theorem BY{ls:List Str}{r:Nat}(h:(gf ls r).isSome=true):r < ls.length:=by
 unfold gf at h;cases q:wb ls r "gifts" with
 | none=>rw[q] at h;nomatch h
 | some ws =>
  obtain⟨x,ex,_⟩:=dI q
  exact(NN.mp ex).1
theorem sI{ls us:List Str}(h:up ls=NG us):0 < ls.length/\us.length<=4/\1<=us.length:=by
 unfold up at h;cases q:wb ls 0 "upto" with
 | none=>rw[q] at h;nomatch h
 | some ws =>
  obtain⟨x,ex,_⟩:=dI q
  rw[q,OE] at h
  split at h
  . rename_i z;cases h;exact⟨(NN.mp ex).1,z.2.2,z.2.1⟩
  . nomatch h
theorem map_some{α β :Type}{o:Option α}{f: α -> β}:(o.map f).isSome=o.isSome:=by cases o<;>rfl
theorem jB{f:Nat->Option PV}(h: ∀ i v,f i=NG v->v.flat=true): ∀ l:List Nat,PV.bF (l.filterMap f)=true
 | []=>rfl
 | i::l=>by
  cases q:f i with
  | none=>rw[S0 q];exact jB h l
  | some v=>rw[OH q,PV.bF,h i v q,jB h l];rfl
theorem kY: ∀{xs:List PV}(k:Nat),PV.bF xs=true->PV.bF (xs.take k)=true/\PV.bF (xs.drop k)=true
 | [],k,_=>by simp[PV.bF]
 | x::xs,0,h=>⟨rfl,h⟩
 | x::xs,k+1,h=>by
  rw[PV.bF,N7] at h;obtain⟨a,b⟩:=kY k h.2;exact⟨by rw[List.take_succ_cons,PV.bF,h.1,a];rfl,by rw[List.drop_succ_cons];exact b⟩
theorem ui(ws:List Str):(iZ ws).flat=true:=by
 have k:PV.bF (ws.map c5)=true:=fK λ_=>rfl;obtain⟨a,b⟩:=kY 2 k;simp only[iZ,PV.flat,PV.bF,a,b,Rg]
theorem oV(ls us:List Str):(mH ls us).flat=true:=by
 have k1:PV.bF (us.map c5)=true:=fK λ_=>rfl;have k2:=jB (f:=fY ls) (λi v e=>by
  unfold fY at e;obtain⟨ws,_,rfl⟩:=PY.mp e;rw[PV.flat];exact fK lh) (Oa us.length)
 have k3:=jB (f:=jk ls us.length) (λi v e=>by
  unfold jk at e;obtain⟨ws,_,rfl⟩:=PY.mp e;exact ui ws) (Oa (ls.length - (1+us.length)))
 simp only[mH,PV.flat,PV.bF,k1,k2,k3,Rg]
section
variable{pg:Tb}{aNoLines:Nat}(T:dh aNoLines pg)
include T
theorem jF(j:Nat){h:PH}{n m:Nat}{ls:List Str}(e:h[n]?=NG (.lst (ls.map PV.str)))(t:uM m ls)(l:m<=10000) :
  run pg (j+5) "read_record" [.ref n] h=match rr ls with
   | .inl r=>tI aNoLines r h
   | .inr v=> .ok v h:=by
 rw[fQ T.kI rfl (by rw[T.gL];rfl)];have b:run pg (j+4) "words_behind" [.ref n,.int 0,.str "upto"] h=_:=iG T (j+3) e t l (OU _) "upto";have l9:=t.1;unfold rr up;cases q:wb ls 0 "upto" with
 | none =>
  rw[q] at b
  simp? [aQ,bh,b]
  exact G7
 | some us =>
  obtain⟨x,ex,ew⟩:=dI q
  obtain⟨w1,w2⟩:=lP t q
  rw[q,ex] at b
  have lc:=rC T (j+2) (h:=h) (i:=5) (by omega) (E:=[NG (.ref n),NI,NI,NI,NI]) (x:=x) w1 w2 l (r:=0) (er:=eI 0) rfl (λ_ _=>rfl)
  cases a:us.all bA with
  | false =>
   simp only[a,OL,if_false] at lc
   simp? [aQ,bh,b,lc]
   simp only[OE,a,OL,false_and,if_false]
   exact zC
  | true =>
   simp only[a,if_true] at lc
   by_cases z:1<=us.length/\us.length<=4
   . have z1:(1:Int)<=(us.length:Int):=by omega
     have z2:(us.length:Int)<=4:=by omega
     simp only[OE,a,z,and_self,if_true];have e3:((h++[.lst ((aE x).map PV.str),.lst (us.map PV.str),.lst (us.map c5)]):PH)[n]?=NG (.lst (ls.map PV.str)):=by rw[N3 ((NN.mp e).1)];exact e
     have hl:0 < ls.length:=(NN.mp ex).1;have lg:=LB (h:=(h++[.lst ((aE x).map PV.str),.lst (us.map PV.str),.lst (us.map c5)])) (xs0:=aw 1 us.length) (st:=bp 1 (nG (gN 5)) (nT aU) (ai "read_gifts" (nA (a2 (aa 0) (aa 5)))) (run pg (j+4)) [NG (.ref n),NG (.ref (h.length+(0+1+1))),NG (.int (1+(us.length:Int))),NI,NI]) (lo:=1) (f:=fY ls) (C:=aNoLines) (us:=λi=>[("row",.int ((1+i:Nat):Int))]) us.length (by omega) (λi hi hk=>by
      have hr:1+i<=ls.length:=by
       cases i with
       | zero=>omega
       | succ i =>
        have:=hk i (by omega)
        unfold fY at this
        rw[map_some] at this
        have:=BY this
        omega
      have g1:=kX T j e3 t l hr;have ci:(1:Int)+(i:Int)=((1+i:Nat):Int):=by omega
      unfold fY;cases y:gf ls (1+i) with
      | none =>
       simp only[y] at g1
       simp? [ci,g1,VI]
      | some ws =>
       simp only[y] at g1
       simp? [ci,g1,QB])
     cases y:(Oa us.length).find? (λi=>(fY ls i).isNone) with
     | some i =>
      simp only[y] at lg
      have tn:((1:Int)+(us.length:Int) - 1).toNat=us.length:=by omega
      simp? [aQ,bh,b,lc,NU,z1,z2,tn,lg]
      exact zC
     | none =>
      simp only[y] at lg
      have tn:((1:Int)+(us.length:Int) - 1).toNat=us.length:=by omega
      have e4:((h++[.lst ((aE x).map PV.str),.lst (us.map PV.str),.lst (us.map c5),.lst ((Oa us.length).filterMap (fY ls))]):PH)[n]?=NG (.lst (ls.map PV.str)):=by rw[N3 ((NN.mp e).1)];exact e
      have ln4:bB [.ref n] (h++[.lst ((aE x).map PV.str),.lst (us.map PV.str),.lst (us.map c5),.lst ((Oa us.length).filterMap (fY ls))])= .ok (.int ls.length) (h++[.lst ((aE x).map PV.str),.lst (us.map PV.str),.lst (us.map c5),.lst ((Oa us.length).filterMap (fY ls))]):=by rw[j7 (xs:=ls.map PV.str) e4,NU]
      have tm:((ls.length:Int) - (1+(us.length:Int))).toNat=ls.length - (1+us.length):=by omega
      have le:=LB (h:=(h++[.lst ((aE x).map PV.str),.lst (us.map PV.str),.lst (us.map c5),.lst ((Oa us.length).filterMap (fY ls))])) (xs0:=aw (1+(us.length:Int)) (ls.length - (1+us.length))) (st:=bp 1 (nG (gN 5)) (nT aU) (ai "read_edge" (nA (a2 (aa 0) (aa 5)))) (run pg (j+4)) [NG (.ref n),NG (.ref (h.length+(0+1+1))),NG (.int (1+(us.length:Int))),NG (.ref (h.length+(0+1+1+1))),NI]) (lo:=1+(us.length:Int)) (f:=jk ls us.length) (C:=aNoLines) (us:=λi=>[("row",.int ((1+us.length+i:Nat):Int))]) (ls.length - (1+us.length)) (by omega) (λi hi hk=>by
       have g1:=mf T j e4 t l (show 1+us.length+i<=ls.length by omega);have ci:(1:Int)+(us.length:Int)+(i:Int)=((1+us.length+i:Nat):Int):=by omega
       unfold jk;cases y:ed ls (1+us.length+i) with
       | none =>
        simp only[y] at g1
        simp? [ci,g1,VI]
       | some ws =>
        simp only[y] at g1
        simp? [ci,g1,QB])
      cases y2:(Oa (ls.length - (1+us.length))).find? (λi=>(jk ls us.length i).isNone) with
      | some i =>
       simp only[y2] at le
       simp? [aQ,bh,b,lc,NU,z1,z2,tn,lg,ln4,tm,le]
       exact zC
      | none =>
       simp only[y2] at le
       have t1:aH [.ref (h.length+(0+1+1))] (h++[.lst ((aE x).map PV.str),.lst (us.map PV.str),.lst (us.map c5),.lst ((Oa us.length).filterMap (fY ls)),.lst ((Oa (ls.length - (1+us.length))).filterMap (jk ls us.length))])= .ok (.tup (us.map c5)) (h++[.lst ((aE x).map PV.str),.lst (us.map PV.str),.lst (us.map c5),.lst ((Oa us.length).filterMap (fY ls)),.lst ((Oa (ls.length - (1+us.length))).filterMap (jk ls us.length))]):=cQ (by rw[aN];rfl)
       have t2:aH [.ref (h.length+(0+1+1+1))] (h++[.lst ((aE x).map PV.str),.lst (us.map PV.str),.lst (us.map c5),.lst ((Oa us.length).filterMap (fY ls)),.lst ((Oa (ls.length - (1+us.length))).filterMap (jk ls us.length))])= .ok (.tup ((Oa us.length).filterMap (fY ls))) (h++[.lst ((aE x).map PV.str),.lst (us.map PV.str),.lst (us.map c5),.lst ((Oa us.length).filterMap (fY ls)),.lst ((Oa (ls.length - (1+us.length))).filterMap (jk ls us.length))]):=cQ (by rw[aN];rfl)
       have t3:aH [.ref (h.length+(0+1+1+1+1))] (h++[.lst ((aE x).map PV.str),.lst (us.map PV.str),.lst (us.map c5),.lst ((Oa us.length).filterMap (fY ls)),.lst ((Oa (ls.length - (1+us.length))).filterMap (jk ls us.length))])= .ok (.tup ((Oa (ls.length - (1+us.length))).filterMap (jk ls us.length))) (h++[.lst ((aE x).map PV.str),.lst (us.map PV.str),.lst (us.map c5),.lst ((Oa us.length).filterMap (fY ls)),.lst ((Oa (ls.length - (1+us.length))).filterMap (jk ls us.length))]):=cQ (by rw[aN];rfl)
       simp? [aQ,bh,b,lc,NU,z1,z2,tn,lg,ln4,tm,le,t1,t2,t3]
       exact bX (oV ls us)
   . have z1: ¬ (1:Int)<=(us.length:Int)\/ ¬ (us.length:Int)<=4:=by omega
     have z3: ¬ (us.all bA=true/\1<=us.length/\us.length<=4):=λy=>z y.2;simp only[OE,z3,if_false];by_cases y:(1:Int)<=(us.length:Int)
     . have z2: ¬ (us.length:Int)<=4:=by omega
       simp? [aQ,bh,b,lc,NU,y,z2];exact zC
     . simp? [aQ,bh,b,lc,NU,y];exact zC
theorem rZ(j:Nat){h:PH}{n m:Nat}{ls:List Str}(e:h[n]?=NG (.lst (ls.map PV.str)))(t:uM m ls)(l:m<=10000) :
  run pg (j+6) "_law_told" [.ref n] h= .ok (match rr ls with
   | .inl r=> .tup [.str "row",.int r]
   | .inr v=> .tup [.str "record",v]) h:=by
 have r1:=jF T j e t l;rw[run_eq T.og rfl (by rw[T.gL];rfl)];cases q:rr ls with
 | inl r =>
  simp only[q] at r1
  have hx:(h++[.exc aNoLines [("row",.int r)]]:PH)[h.length]?=NG (.exc aNoLines [("row",.int r)]):=aF
  have i1:g9 [(aNoLines,false)] (.ref h.length) (h++[.exc aNoLines [("row",.int r)]])= .ok (.bl false) (h++[.exc aNoLines [("row",.int r)]]):=wW hx (by simp)
  have i2:g9 [(aNoLines,true)] (.ref h.length) (h++[.exc aNoLines [("row",.int r)]])= .ok (.bl true) (h++[.exc aNoLines [("row",.int r)]]):=wW hx (by simp)
  have x1:Fw [aNoLines] "row" (.ref h.length) (h++[.exc aNoLines [("row",.int r)]])= .ok (.int r) (h++[.exc aNoLines [("row",.int r)]]):=Jn hx (by simp) (by simp)
  have tx: ∀ mh,vG [aNoLines] 2 4 mh (run pg (j+5)) (.ex aNoLines [("row",.int r)] h)=_:=λmh=>BG (by simp)
  simp? [cV,ft,r1,tx,i1,i2,x1]
  exact bX rfl
 | inr v =>
  simp only[q] at r1
  simp? [cV,ft,r1]
end
theorem eq_nil{h:PH}{n m:Nat}{ss:List Str}(e1:h[n]?=NG (.lst (ss.map PV.str)))(e2:h[m]?=NG (.lst []))(ok: ∀ x∈ss,PJ x=true):fZ (.ref n) (.ref m) h= .ok (.bl (decide (ss=[]))) h:=by
 have k:=ne_nil e1 e2 ok;unfold iz at k;unfold fZ;cases al:alike (.ref n) (.ref m) h with
 | none=>rw[al] at k;cases k
 | some b =>
  have nd:eF h (.ref n)=false:=by simp only[eF,e1]
  rw[al,nd] at k
  simp only[OL,if_false] at k
  have:(!b)=(!decide (ss=[])):=by injection k with k;injection k
  show RV.ok (PV.bl b) h=_
  rw[show b=decide (ss=[]) by revert this;cases b<;>cases decide (ss=[])<;>decide]
def qJ(r k:Nat)(ws:List Str):Bool:=if r=0 then decide (ws.head?=NG ("upto" :Str)/\2<=ws.length/\ws.length<=5)&&ws.tail.all bA else if r<=k then decide (ws.head?=NG ("gifts" :Str))&&ws.tail.all cz else decide (ws.head?=NG ("edge" :Str)/\ws.length=5)&&ws.tail.all bA
theorem in4{i:Int}{h:PH}:A2 (.int i) (.tup [.int 2,.int 3,.int 4,.int 5]) h= .ok (.bl (decide (2<=i/\i<=5))) h:=by
 have:isIn (.int i) (.tup [.int 2,.int 3,.int 4,.int 5]) h=NG (decide (2<=i/\i<=5)):=by
  unfold P3.isIn;simp only[itemsOf,QD,List.all_nil,fj,Rg,if_true,Qf,List.any_nil,KY];congr 1;simp only[Wu];rw[Qc];simp;omega
 unfold A2;rw[this]
theorem A3{q:Str->Bool}{ws:List Str}:decide (ws.filter (λw=> !q w)=[])=ws.all q:=by
 rw[Qc,decide_eq_true_eq,RN,Ow];simp
theorem LJ(t:List Str):decide ((t.filter λw=> !bA w).filter (λw:Str=> !decide (w= "-"))=[])=t.all cz:=by
 rw[List.filter_filter,Qc,decide_eq_true_eq,RN,Ow];constructor
 . intro a x mx;have k:=a x mx;unfold cz;cases f:bA x
   . rw[f] at k;simp at k;simp[k]
   . simp
 . intro a x mx;have k:=a x mx;unfold cz at k;cases f:bA x
   . rw[f] at k;simp at k;simp[k]
   . simp
section
variable{pg:Tb}{aNoLines:Nat}(T:dh aNoLines pg)
include T
theorem fM(j:Nat){h:PH}{q m:Nat}{ws:List Str}(e:h[q]?=NG (.lst (ws.map PV.str)))(wn:ws≠[])(w1:ws.length<=m+1)(w2: ∀ v∈ws,Tx m v)(l:m<=10000)(r k:Nat) :
  run pg (j+2) "_law_stands" [.int r,.ref q,.int k] h= .ok (.bl (qJ r k ws)) h:=by
 rw[run_eq T.kG rfl (by rw[T.gL];rfl)];obtain⟨p,t,rfl⟩: ∃ p t,ws=p::t:=by
  cases ws with
  | nil=>exact absurd rfl wn
  | cons p t=>exact⟨p,t,rfl⟩
 have w3: ∀ v∈t,Tx m v:=λv mv=>w2 v (NW _ mv)
 let F:List Str:=t.filter λw=> !bA w
 let F2:List Str:=F.filter λw:Str=> !decide (w= "-")
 have fl:F.length<=t.length:=List.length_filter_le _ _;have okF: ∀ x∈F,PJ x=true:=λx mx=>(w3 x (PR.mp mx).1).ok;have okF2: ∀ x∈F2,PJ x=true:=λx mx=>okF x (PR.mp mx).1;have cu:cS (PV.str p::t.map PV.str) (NG 1) NI=t.map PV.str:=pb (ws:=p::t);have lc:P3.eO ⟨NG h.length,t.map PV.str⟩ (bp 1 (gN 4) (j6 (aV (ai "_law_is_figures" (a1 (aa 4))))) (aa 4) (run pg (j+1)) [NG (.int r),NG (.ref q),NG (.int k),NI]) (t.map PV.str) [] (h++[.lst (t.map PV.str)])= .ok (F.map PV.str) (h++[.lst (t.map PV.str)]):=by
  refine(cH (α :=Str) (eu aF) t [] (f:=λw=>if bA w=true then NI else NG (.str w)) (λw mw=>?_) (by rw[NK] at w1;simp only[N4];omega)).trans ?_
  . have g:=λg=>kK T j (h:=g) (w3 w mw).1 (N5 (w3 w mw).2 (by omega));cases y:bA w
    . rw[y] at g;simp? [g]
    . rw[y] at g;simp? [g]
  . rw[Oo];congr 1;show _=(t.filter λw=> !bA w).map PV.str
    clear w1 w2 w3 cu fl okF okF2 wn e
    induction t with
    | nil=>rfl
    | cons w t ih=>cases y:bA w<;>simp[y,ih]
 have lc2:P3.eO ⟨NG (h.length+(0+1)),F.map PV.str⟩ (bp 1 (gN 4) (aV (aD iz (aa 4) (eS "-"))) (aa 4) (run pg (j+1)) [NG (.int r),NG (.ref q),NG (.int k),NG (.ref (h.length+(0+1)))]) (F.map PV.str) [] (h++[.lst (t.map PV.str),.lst (F.map PV.str)])= .ok (F2.map PV.str) (h++[.lst (t.map PV.str),.lst (F.map PV.str)]):=by
  refine(cH (α :=Str) (eu (by rw[aN];rfl)) F [] (f:=λw=>if w= "-" then NI else NG (.str w)) (λw mw=>?_) (by rw[NK] at w1;simp only[N4];omega)).trans ?_
  . by_cases y:w= "-"
    . simp? [y]
    . simp? [y]
  . rw[Oo];congr 1;show _=(F.filter λw:Str=> !decide (w= "-")).map PV.str;generalize F=L
    induction L with
    | nil=>rfl
    | cons w L ih=>by_cases y:w= "-" <;>simp[y,ih]
 have n1:fZ (.ref (h.length+(0+1))) (.ref (h.length+(0+1+1))) (h++[.lst (t.map PV.str),.lst (F.map PV.str),.lst []])= .ok (.bl (decide (F=[]))) _:=eq_nil (by rw[aN];rfl) (by rw[aN];rfl) okF;have n2:fZ (.ref (h.length+(0+1+1))) (.ref (h.length+(0+1+1+1))) (h++[.lst (t.map PV.str),.lst (F.map PV.str),.lst (F2.map PV.str),.lst []])= .ok (.bl (decide (F2=[]))) _:=eq_nil (by rw[aN];rfl) (by rw[aN];rfl) okF2;have f1:decide (F=[])=t.all bA:=A3;have f2:decide (F2=[])=t.all cz:=LJ t;rw[f1] at n1;rw[f2] at n2
 clear_value F F2
 have gq: ∀ X:PH,(h++X)[q]?=NG (.lst ((p::t).map PV.str)):=λX=>by rw[N3 ((NN.mp e).1)];exact e
 unfold qJ;have hd: ∀ w:Str,((p::t).head?=NG w)=(p=w):=λw=>by simp
 simp only[hd,List.tail_cons];have ls:(p::t).length=t.length+1:=rfl;by_cases r0:r=0
 . have r1:=eq_true (show(r:Int)=0 by omega);simp only[eq_true r0,if_true,ls];by_cases y:p= "upto"
   . have y1:=eq_true y;by_cases z:2<=t.length+1/\t.length+1<=5
     . have z1:=eq_true (show 2<=((t.length+1:Nat):Int)/\((t.length+1:Nat):Int)<=5 by omega);simp? [aJ,aY,e,gq,cu,lc,in4,n1,NU,r1,y1,z1,fC,bb];simp only[y1,z,and_self,decide_true,Ri]
     . have z1:=eq_false (show ¬ (2<=((t.length+1:Nat):Int)/\((t.length+1:Nat):Int)<=5) by omega);simp? [aJ,aY,e,gq,cu,lc,in4,NU,r1,y1,z1,fC,bb];simp only[z,and_false,decide_false,Pq]
   . simp? [aJ,aY,e,gq,cu,lc,r1,y,fC,bb];simp only[y,false_and,decide_false,Pq]
 . have r1: ¬ (r:Int)=0:=by omega
   simp only[r0,if_false];by_cases rk:r<=k
   . have r2:(r:Int)<=(k:Int):=by omega
     simp only[rk,if_true];by_cases y:p= "gifts"
     . have y1:=eq_true y;simp? [aJ,aY,e,gq,cu,lc,lc2,n2,r1,r2,y1,fC,bb];simp only[decide_true,Ri]
     . simp? [aJ,aY,e,gq,cu,lc,r1,r2,y,fC,bb];simp only[decide_false,Pq]
   . have r2: ¬ (r:Int)<=(k:Int):=by omega
     simp only[rk,if_false,ls];by_cases y:p= "edge"
     . have y1:=eq_true y;by_cases z:t.length+1=5
       . have z1:=eq_true (show((t.length+1:Nat):Int)=5 by omega);simp? [aJ,aY,e,gq,cu,lc,n1,NU,r1,r2,y1,z1,fC,bb];simp only[y1,z,and_self,decide_true,Ri]
       . have z1: ¬ ((t.length+1:Nat):Int)=5:=by omega
         simp? [aJ,aY,e,gq,cu,lc,NU,r1,r2,y1,z1,fC,bb];simp only[z,and_false,decide_false,Pq]
     . simp? [aJ,aY,e,gq,cu,lc,r1,r2,y,fC,bb];simp only[y,false_and,decide_false,Pq]
end
def C7:MS:=(ar (eM dP bD (aD fP (aa 0) (aa 5)) (a1 (eS " "))) (gN 6))
def EJ:MS:=(cZ (j6 (aV (ai "_law_stands" (a3 (aa 5) (aa 6) (aa 1))))) (aZ (cC (a2 (eS "row") (aa 5)))) ee)
def G8:MS:=(cZ (mQ (aa 5) (eI 0)) (aj (ar (aD tP (eB bB (a1 (aa 6))) (eI 1)) (gN 1)) (ar (eB aH (ag (d5 1 (gE (cE (aa 6) (au (eI 1)) aC)) (gN 8) aU (eB cY (a1 (aa 8)))) aA)) (gN 4))) (cZ (aV (aD zU (aa 5) (aa 1))) (aj (ar (d5 1 (gE (cE (aa 6) (au (eI 1)) aC)) (gN 8) aU (qY (mQ (aa 8) (eS "-")) (eC .non) (eB cY (a1 (aa 8))))) (gN 5)) (cK (eM bt bf (aa 2) (ag (eB aH (a1 (aa 5))) aA)))) (aj (ar (d5 1 (gE (cE (aa 6) (au (eI 1)) aC)) (gN 8) aU (eB cY (a1 (aa 8)))) (gN 7)) (cK (eM bt bf (aa 3) (ag (cC (ag (cC (a2 (eX 7 0) (eX 7 1))) (ag (cC (a2 (eX 7 2) (eX 7 3))) aA))) aA))))))
def nL:MS:=aj C7 (aj EJ G8)
structure LS(h H:PH)(gs es:List PV):Prop where
 gr: ∃ G,H=h++G
 g:H[h.length]?=NG (.lst gs)
 e:H[h.length+1]?=NG (.lst es)
section
variable{h H:PH}{gs es:List PV}
theorem LS.app(s:LS h H gs es)(X:PH):LS h (H++X) gs es:=by
 obtain⟨G,rfl⟩:=s.gr;exact⟨⟨G++X,by rw[N0]⟩,by rw[N3 ((NN.mp s.g).1)];exact s.g,by rw[N3 ((NN.mp s.e).1)];exact s.e⟩
theorem LS.setG(s:LS h H gs es)(gs':List PV):LS h (H.set h.length (.lst gs')) gs' es:=by
 have hl:=(NN.mp s.g).1;refine⟨?_,by rw[OO hl],by rw[OP (by omega)];exact s.e⟩;obtain⟨G,rfl⟩:=s.gr;exact⟨_,Px _ _ (NS _)⟩
theorem LS.Mb(s:LS h H gs es)(es':List PV):LS h (H.set (h.length+1) (.lst es')) gs es':=by
 have hl:=(NN.mp s.e).1;refine⟨?_,by rw[OP (by omega)];exact s.g,by rw[OO hl]⟩;obtain⟨G,rfl⟩:=s.gr;exact⟨_,Px _ _ (by omega)⟩
theorem LS.at(s:LS h H gs es){n:Nat}{o:PO}(e:h[n]?=NG o):H[n]?=NG o:=by
 obtain⟨G,rfl⟩:=s.gr;rw[N3 ((NN.mp e).1)];exact e
end
theorem Cf{w:Str}{m:Nat}(t:Tx m w)(f:bA w=true)(g:PH):cY [.str w] g= .ok (c5 w) g:=by
 unfold bA at f;simp only[N7,QM,decide_eq_false_iff_not,decide_eq_true_eq] at f;exact mN t.1 f.2.2.1 f.2.1 f.1 g
theorem oB{c:CF}{E:aG}{X:PH}{q m:Nat}{t:List Str}(hE:E.length=8)(e:X[q]?=NG (.lst (t.map PV.str)))(l:t.length<=100000)(tx: ∀ w∈t,Tx m w)(f:t.all bA=true) :
  P3.eO ⟨NG q,t.map PV.str⟩ (bp 1 (gN 8) aU (eB cY (a1 (aa 8))) c E) (t.map PV.str) [] X= .ok (t.map c5) X:=by
 refine(cH (α :=Str) (eu e) t [] (f:=λw=>NG (c5 w)) (λw mw=>?_) (by simp only[N4];omega)).trans ?_
 . have it:=Cf (tx w mw) (Ow.mp f w mw);have gn: ∀ g,gN 8 (.str w) (E++[NI]) g= .ok (E++[NG (.str w)]) g:=λg=>by rw[pB];simp[<- hE]
   have vi:(E++[NG (PV.str w)])[8]?=NG (NG (.str w)):=by rw[<- hE];simp
   simp? [gn,vi,it]
 . rw[Oo,Pr]
theorem tD{c:CF}{E:aG}{X:PH}{q m:Nat}{t:List Str}(hE:E.length=8)(e:X[q]?=NG (.lst (t.map PV.str)))(l:t.length<=100000)(tx: ∀ w∈t,Tx m w)(f:t.all cz=true) :
  P3.eO ⟨NG q,t.map PV.str⟩ (bp 1 (gN 8) aU (qY (mQ (aa 8) (eS "-")) (eC .non) (eB cY (a1 (aa 8)))) c E) (t.map PV.str) [] X= .ok (t.map cq) X:=by
 refine(cH (α :=Str) (eu e) t [] (f:=λw=>NG (cq w)) (λw mw=>?_) (by simp only[N4];omega)).trans ?_
 . have gn: ∀ g,gN 8 (.str w) (E++[NI]) g= .ok (E++[NG (.str w)]) g:=λg=>by rw[pB];simp[<- hE]
   have vi:(E++[NG (PV.str w)])[8]?=NG (NG (.str w)):=by rw[<- hE];simp
   have b:=Ow.mp f w mw;unfold cz at b;unfold cq;by_cases z:w= "-"
   . have z1:=eq_true z;simp? [gn,vi,z1]
   . have it:=Cf (tx w mw) (by simpa [z] using b);unfold c5 at it;simp? [gn,vi,it,z]
 . rw[Oo,Pr]
section
variable{pg:Tb}{aNoLines:Nat}(T:dh aNoLines pg)
include T
section
variable{h H:PH}{gs es:List PV}{n m i k:Nat}{x:Str}{ls:List Str}(s:LS h H gs es)(en:h[n]?=NG (.lst (ls.map PV.str)))(ex:ls[i]?=NG x)(tx:Tx m x)(l:m<=10000)
include s en ex tx l
theorem rH(j:Nat){u e5 e6 e7:Option PV}(b:qJ i k (aE x)=false) :
  aX (gN 5) nL (run pg (j+2)) (.int i) [NG (.ref n),NG (.int k),NG (.ref h.length),NG (.ref (h.length+1)),u,e5,e6,e7] H= .ok (.rt (.tup [.str "row",.int i])) (H++[.lst ((aE x).map PV.str)]):=by
 have sp:=dZ (h:=H) tx (by omega);have ix:fP (.ref n) (.int i) H= .ok (.str x) H:=by
  rw[mJ,s.at en,nk,P3.cO rfl (by rw[OD,ex];rfl)];rfl
 have st:=fM T j (h:=H++[.lst ((aE x).map PV.str)]) (q:=H.length) aF (ef x) tx.aE.1 tx.aE.2 l i k;rw[b] at st;simp? [nL,C7,EJ,fU,pz,bD,ix,sp,st]
theorem vD(j:Nat){u e5 e6 e7:Option PV}(i0:i=0)(b:qJ i k (aE x)=true) :
  aX (gN 5) nL (run pg (j+2)) (.int i) [NG (.ref n),NG (.int k),NG (.ref h.length),NG (.ref (h.length+1)),u,e5,e6,e7] H= .ok (.nx [NG (.ref n),NG (.int (aE x).tail.length),NG (.ref h.length),NG (.ref (h.length+1)),NG (.tup ((aE x).tail.map c5)),NG (.int i),NG (.ref H.length),e7]) (H++[.lst ((aE x).map PV.str),.lst ((aE x).tail.map PV.str),.lst ((aE x).tail.map c5)]):=by
 have sp:=dZ (h:=H) tx (by omega);have ix:fP (.ref n) (.int i) H= .ok (.str x) H:=by
  rw[mJ,s.at en,nk,P3.cO rfl (by rw[OD,ex];rfl)];rfl
 have st:=fM T j (h:=H++[.lst ((aE x).map PV.str)]) (q:=H.length) aF (ef x) tx.aE.1 tx.aE.2 l i k;rw[b] at st;have i1:=eq_true (show(i:Int)=0 by omega);have af:(aE x).tail.all bA=true:=by
  unfold qJ at b;rw[if_pos i0,N7] at b;exact b.2
 have wl:=tx.aE.1;have wp:0 < (aE x).length:=Qm.mpr (ef x);have lc:=λc=>oB (c:=c) (E:=[NG (.ref n),NG (.int (aE x).tail.length),NG (.ref h.length),NG (.ref (h.length+1)),u,NG (.int i),NG (.ref H.length),e7]) (X:=H++[.lst ((aE x).map PV.str),.lst ((aE x).tail.map PV.str)]) (q:=H.length+(0+1)) (m:=m) rfl (by rw[aN];rfl) (by rw[PD];omega) (λw mw=>tx.aE.2 w (QX mw)) af;have tl:((aE x).length:Int) - 1=((aE x).tail.length:Int):=by rw[PD];omega
 simp? [nL,C7,EJ,G8,fU,pz,bD,ix,sp,st,i1,NU,tl,pb,lc]
end
end
theorem zt{ls:List Str}{r k:Nat}{x:Str}(r0:r≠0)(ex:ls[r]?=NG x):qJ r k (aE x)=(if r<=k then(gf ls r).isSome else(ed ls r).isSome):=by
 have wbe: ∀ w:Str,wb ls r w=if (aE x).head?=NG w then NG (aE x).tail else NI:=λw=>by unfold wb;rw[ex];rfl
 have wp:0 < (aE x).length:=Qm.mpr (ef x);have tl:(aE x).tail.length=(aE x).length - 1:=PD;unfold qJ gf ed;rw[if_neg r0,wbe,wbe];by_cases rk:r<=k
 . rw[if_pos rk,if_pos rk];by_cases y:(aE x).head?=NG ("gifts" :Str)
   . rw[decide_eq_true y,if_pos y,OE];cases(aE x).tail.all cz<;>rfl
   . rw[decide_eq_false y,if_neg y];rfl
 . rw[if_neg rk,if_neg rk];by_cases y:(aE x).head?=NG ("edge" :Str)
   . rw[if_pos y,OE];by_cases z:(aE x).length=5
     . have z1:(aE x).tail.length=4:=by omega
       rw[decide_eq_true ⟨y,z⟩];cases q:(aE x).tail.all bA<;>simp[z1]
     . have z1: ¬ (aE x).tail.length=4:=by omega
       rw[decide_eq_false (λq=>z q.2),if_neg (λq=>z1 q.2)];rfl
   . rw[decide_eq_false (λq=>y q.1),if_neg y];rfl
theorem nZ{ls:List Str}{k:Nat}{x:Str}(ex:ls[0]?=NG x):up ls=if qJ 0 k (aE x)=true then NG (aE x).tail else NI:=by
 have wbe:wb ls 0 "upto" =if (aE x).head?=NG ("upto" :Str) then NG (aE x).tail else NI:=by unfold wb;rw[ex];rfl
 have wp:0 < (aE x).length:=Qm.mpr (ef x);have tl:(aE x).tail.length=(aE x).length - 1:=PD;unfold qJ up;rw[if_pos rfl,wbe];by_cases y:(aE x).head?=NG ("upto" :Str)
 . rw[if_pos y,OE];by_cases z:2<=(aE x).length/\(aE x).length<=5
   . have z1:1<=(aE x).tail.length/\(aE x).tail.length<=4:=by omega
     rw[decide_eq_true ⟨y,z⟩,Ri];cases q:(aE x).tail.all bA
     . rw[if_neg (λa=>nomatch a.1),if_neg (by decide)]
     . rw[if_pos ⟨rfl,z1⟩,if_pos rfl]
   . have z1: ¬ (1<=(aE x).tail.length/\(aE x).tail.length<=4):=by omega
     rw[decide_eq_false (λq=>z q.2),if_neg (λq=>z1 q.2)];rfl
 . rw[decide_eq_false (λq=>y q.1),if_neg y];rfl
theorem FQ{ls ws:List Str}{r:Nat}(e:gf ls r=NG ws): ∃ x,ls[r]?=NG x/\ws=(aE x).tail/\ws.all cz=true:=by
 unfold gf at e;obtain⟨v,h1,h2⟩:=PQ.mp e;obtain⟨x,ex,rfl⟩:=dI h1;split at h2
 . rename_i a;cases h2;exact⟨x,ex,rfl,a⟩
 . nomatch h2
theorem GV{ls ws:List Str}{r:Nat}(e:ed ls r=NG ws): ∃ x,ls[r]?=NG x/\ws=(aE x).tail/\ws.all bA=true/\ws.length=4:=by
 unfold ed at e;obtain⟨v,h1,h2⟩:=PQ.mp e;obtain⟨x,ex,rfl⟩:=dI h1;split at h2
 . rename_i a;cases h2;exact⟨x,ex,rfl,a.1,a.2⟩
 . nomatch h2
section
variable{pg:Tb}{aNoLines:Nat}(T:dh aNoLines pg)
include T
section
variable{h H:PH}{gs es:List PV}{n m i k:Nat}{x:Str}{ls:List Str}(s:LS h H gs es)(en:h[n]?=NG (.lst (ls.map PV.str)))(ex:ls[i]?=NG x)(tx:Tx m x)(l:m<=10000)
include s en ex tx l
theorem ur(j:Nat){u e5 e6 e7:Option PV}(i0:i≠0)(ik:i<=k)(b:qJ i k (aE x)=true)(gl:gs.length<=10000) :
  ∃ H' e5',LS h H' (gs++[.tup ((aE x).tail.map cq)]) es/\aX (gN 5) nL (run pg (j+2)) (.int i) [NG (.ref n),NG (.int k),NG (.ref h.length),NG (.ref (h.length+1)),u,e5,e6,e7] H= .ok (.nx [NG (.ref n),NG (.int k),NG (.ref h.length),NG (.ref (h.length+1)),u,e5',NG (.ref H.length),e7]) H':=by
 have sp:=dZ (h:=H) tx (by omega);have ix:fP (.ref n) (.int i) H= .ok (.str x) H:=by
  rw[mJ,s.at en,nk,P3.cO rfl (by rw[OD,ex];rfl)];rfl
 have st:=fM T j (h:=H++[.lst ((aE x).map PV.str)]) (q:=H.length) aF (ef x) tx.aE.1 tx.aE.2 l i k;rw[b] at st;have i1: ¬ (i:Int)=0:=by omega
 have i2:(i:Int)<=(k:Int):=by omega
 have af:(aE x).tail.all cz=true:=by
  unfold qJ at b;rw[if_neg i0,if_pos ik,N7] at b;exact b.2
 have wl:=tx.aE.1;have lc:=λc=>tD (c:=c) (E:=[NG (.ref n),NG (.int k),NG (.ref h.length),NG (.ref (h.length+1)),u,NG (.int i),NG (.ref H.length),e7]) (X:=H++[.lst ((aE x).map PV.str),.lst ((aE x).tail.map PV.str)]) (q:=H.length+(0+1)) (m:=m) rfl (by rw[aN];rfl) (by rw[PD];omega) (λw mw=>tx.aE.2 w (QX mw)) af;have ga:=λX=>(s.app X).g;have il: ∀ X,bf (.ref h.length) (H++X)=true:=λX=>dH (ga X);have tp:aH [.ref (H.length+(0+1+1))] (H++[.lst ((aE x).map PV.str),.lst ((aE x).tail.map PV.str),.lst ((aE x).tail.map cq)])= .ok (.tup ((aE x).tail.map cq)) _:=cQ (by rw[aN];rfl);refine⟨_,NG (.ref (H.length+(0+1+1))),(s.app [.lst ((aE x).map PV.str),.lst ((aE x).tail.map PV.str),.lst ((aE x).tail.map cq)]).setG _,?_⟩;simp? [nL,C7,EJ,G8,fU,pz,bD,ix,sp,st,i1,i2,pb,lc,il,ga,tp]
theorem vt(j:Nat){u e5 e6 e7:Option PV}(i0:i≠0)(ik: ¬ i<=k)(b:qJ i k (aE x)=true)(gl:es.length<=10000) :
  ∃ H' e5' e7',LS h H' gs (es++[iZ (aE x).tail])/\aX (gN 5) nL (run pg (j+2)) (.int i) [NG (.ref n),NG (.int k),NG (.ref h.length),NG (.ref (h.length+1)),u,e5,e6,e7] H= .ok (.nx [NG (.ref n),NG (.int k),NG (.ref h.length),NG (.ref (h.length+1)),u,e5',NG (.ref H.length),e7']) H':=by
 have sp:=dZ (h:=H) tx (by omega);have ix:fP (.ref n) (.int i) H= .ok (.str x) H:=by
  rw[mJ,s.at en,nk,P3.cO rfl (by rw[OD,ex];rfl)];rfl
 have st:=fM T j (h:=H++[.lst ((aE x).map PV.str)]) (q:=H.length) aF (ef x) tx.aE.1 tx.aE.2 l i k;rw[b] at st;have i1: ¬ (i:Int)=0:=by omega
 have i2: ¬ (i:Int)<=(k:Int):=by omega
 obtain⟨af,a4⟩:(aE x).tail.all bA=true/\(aE x).tail.length=4:=by
  unfold qJ at b;rw[if_neg i0,if_neg ik,N7,decide_eq_true_eq] at b;exact⟨b.2,by rw[PD];omega⟩
 have wl:=tx.aE.1;have lc:=λc=>oB (c:=c) (E:=[NG (.ref n),NG (.int k),NG (.ref h.length),NG (.ref (h.length+1)),u,NG (.int i),NG (.ref H.length),e7]) (X:=H++[.lst ((aE x).map PV.str),.lst ((aE x).tail.map PV.str)]) (q:=H.length+(0+1)) (m:=m) rfl (by rw[aN];rfl) (by rw[PD];omega) (λw mw=>tx.aE.2 w (QX mw)) af;obtain⟨a,c,d,f,e4⟩: ∃ a c d f,(aE x).tail=[a,c,d,f]:=by
  generalize (aE x).tail=t at a4;rcases t with _ | ⟨a,_ | ⟨c,_ | ⟨d,_ | ⟨f,_ | ⟨_,_⟩⟩⟩⟩⟩<;>first | exact⟨_,_,_,_,rfl⟩ | cases a4
 have ga:=λX=>(s.app X).e;have il: ∀ X,bf (.ref (h.length+1)) (H++X)=true:=λX=>dH (ga X);have ev:iZ (aE x).tail= .tup [.tup [c5 a,c5 c],.tup [c5 d,c5 f]]:=by rw[e4];rfl
 rw[ev];have cu:cS ((aE x).map PV.str) (NG 1) NI=(aE x).tail.map PV.str:=pb;rw[e4] at lc cu;refine⟨_,NG (.int i),NG (.ref (H.length+(0+1+1))),(s.app [.lst ((aE x).map PV.str),.lst ([a,c,d,f].map PV.str),.lst ([a,c,d,f].map c5)]).Mb _,?_⟩;simp only[NR,OG] at lc cu;simp? [nL,C7,EJ,G8,fU,pz,bD,ix,sp,st,i1,i2,cu,lc,il,ga,fC,p9,qu,vn]
end
end
def oI(ls:List Str)(k i:Nat):List PV:=(Oa (min (i - 1) k)).filterMap (fY ls)
def qe(ls:List Str)(k i:Nat):List PV:=(Oa (i - (1+k))).filterMap (jk ls k)
def ck(ls:List Str)(k q:Nat):Prop:=(if q<=k then(gf ls q).isSome else(ed ls q).isSome)=true
theorem wy{ls ws:List Str}{k i:Nat}(i1:1<=i)(ik:i<=k)(e:gf ls i=NG ws):oI ls k (i+1)=oI ls k i++[.tup (ws.map cq)]/\qe ls k (i+1)=qe ls k i:=by
 unfold oI qe;have h1:min (i+1 - 1) k=(i - 1)+1:=by omega
 have h2:min (i - 1) k=i - 1:=by omega
 have h3:i+1 - (1+k)=i - (1+k):=by omega
 have v:fY ls (i - 1)=NG (.tup (ws.map cq)):=by unfold fY;rw[show 1+(i - 1)=i by omega,e];rfl
 rw[h1,h2,h3,VJ,TV,OH v,UR];exact⟨rfl,rfl⟩
theorem vq{ls ws:List Str}{k i:Nat}(i1:1<=i)(ik: ¬ i<=k)(e:ed ls i=NG ws):oI ls k (i+1)=oI ls k i/\qe ls k (i+1)=qe ls k i++[iZ ws]:=by
 unfold oI qe;have h1:min (i+1 - 1) k=min (i - 1) k:=by omega
 have h3:i+1 - (1+k)=(i - (1+k))+1:=by omega
 have v:jk ls k (i - (1+k))=NG (iZ ws):=by unfold jk;rw[show 1+k+(i - (1+k))=i by omega,e];rfl
 rw[h1,h3,VJ,TV,OH v,UR];exact⟨rfl,rfl⟩
theorem ve{f:Nat->Option PV}: ∀{l:List Nat},(∀ i∈l,(f i).isSome=true)->(l.filterMap f).length=l.length
 | [],_=>rfl
 | i::l,h=>by
  obtain⟨v,e⟩:=Pe.mp (h i N1);rw[OH e,NK,ve λq m=>h q (NW _ m),NK]
theorem mZ{f:Nat->Option PV}{n a:Nat}(h1:a < n)(h2: ∀ q,q < a->(f q).isSome=true)(h3:f a=NI):(Oa n).find? (λi=>(f i).isNone)=NG a:=by
 rw[List.find?_range_eq_some];refine⟨by rw[h3];rfl,PK.mpr h1,λq hq=>?_⟩;have:=h2 q hq;cases e:f q with
 | none=>rw[e] at this;nomatch this
 | some v=>rfl
theorem nB{f:Nat->Option PV}{n:Nat}(h2: ∀ q,q < n->(f q).isSome=true):(Oa n).find? (λi=>(f i).isNone)=NI:=by
 rw[List.find?_range_eq_none];intro q hq;have:=h2 q hq;cases e:f q with
 | none=>rw[e] at this;nomatch this
 | some v=>rfl
theorem yd{ls:List Str}{k q:Nat}(h:ck ls k (1+q))(hq:q < k):(fY ls q).isSome=true:=by
 unfold ck at h;rw[if_pos (by omega)] at h;unfold fY;rw[map_some];exact h
theorem Jt{ls:List Str}{k q:Nat}(h:ck ls k (1+k+q)):(jk ls k q).isSome=true:=by
 unfold ck at h;rw[if_neg (by omega)] at h;unfold jk;rw[map_some];exact h
theorem C4{ls us:List Str}{r:Nat}(hu:up ls=NG us)(r1:1<=r)(rl:r < ls.length)(h: ∀ q,1<=q->q < r->ck ls us.length q)(b: ¬ ck ls us.length r):rr ls= .inl r:=by
 unfold rr;rw[hu];by_cases rk:r<=us.length
 . have f:=mZ (f:=fY ls) (n:=us.length) (a:=r - 1) (by omega) (λq hq=>yd (h (1+q) (by omega) (by omega)) (by omega)) (by
    unfold ck at b;rw[if_pos rk] at b;unfold fY;rw[show 1+(r - 1)=r by omega];cases e:gf ls r with
    | none=>rfl
    | some v=>rw[e] at b;exact absurd rfl b)
   simp only[f];congr 1;omega
 . have f:=nB (f:=fY ls) (n:=us.length) (λq hq=>yd (h (1+q) (by omega) (by omega)) hq);have g:=mZ (f:=jk ls us.length) (n:=ls.length - (1+us.length)) (a:=r - (1+us.length)) (by omega) (λq hq=>Jt (h (1+us.length+q) (by omega) (by omega))) (by
    unfold ck at b;rw[if_neg rk] at b;unfold jk;rw[show 1+us.length+(r - (1+us.length))=r by omega];cases e:ed ls r with
    | none=>rfl
    | some v=>rw[e] at b;exact absurd rfl b)
   simp only[f,g];congr 1;omega
theorem wR{ls us:List Str}(hu:up ls=NG us)(h: ∀ q,1<=q->q < ls.length->ck ls us.length q)(s:ls.length - 1 < us.length):rr ls= .inl ls.length:=by
 have l0:=(sI hu).1;unfold rr;rw[hu];have f:=mZ (f:=fY ls) (n:=us.length) (a:=ls.length - 1) (by omega) (λq hq=>yd (h (1+q) (by omega) (by omega)) (by omega)) (by
  unfold fY;rw[show 1+(ls.length - 1)=ls.length by omega];cases e:gf ls ls.length with
  | none=>rfl
  | some v=>exact absurd (BY (ls:=ls) (r:=ls.length) (by rw[e];rfl)) (by omega))
 simp only[f];congr 1;omega
theorem yL{ls us:List Str}(hu:up ls=NG us)(h: ∀ q,1<=q->q < ls.length->ck ls us.length q)(s:us.length<=ls.length - 1):rr ls= .inr (.tup [.tup (us.map c5),.tup (oI ls us.length ls.length),.tup (qe ls us.length ls.length)]):=by
 have l0:=(sI hu).1;unfold rr;rw[hu];have f:=nB (f:=fY ls) (n:=us.length) (λq hq=>yd (h (1+q) (by omega) (by omega)) hq);have g:=nB (f:=jk ls us.length) (n:=ls.length - (1+us.length)) (λq hq=>Jt (h (1+us.length+q) (by omega) (by omega)));simp only[f,g];unfold mH oI qe;rw[Q4 s]
theorem FJ{ls us:List Str}(h: ∀ q,1<=q->q < ls.length->ck ls us.length q):(oI ls us.length ls.length).length=min (ls.length - 1) us.length:=by
 unfold oI;rw[ve,PN];intro i mi;rw[PK] at mi;exact yd (h (1+i) (by omega) (by omega)) (by omega)
section
variable{pg:Tb}{aNoLines:Nat}(T:dh aNoLines pg)
include T
theorem tJ(j:Nat){h:PH}{n m k:Nat}{ls:List Str}(en:h[n]?=NG (.lst (ls.map PV.str)))(t:uM m ls)(l:m<=10000){u:Option PV}{xs0:List PV}: ∀ d i,1<=i->i+d=ls.length->(∀ q,1<=q->q < i->ck ls k q)-> ∀ H e5 e6 e7,LS h H (oI ls k i) (qe ls k i) ->
  (∃ r,r < ls.length/\1<=r/\(∀ q,1<=q->q < r->ck ls k q)/\ ¬ ck ls k r/\ ∃ G,bc ⟨NI,xs0⟩ (aX (gN 5) nL (run pg (j+2))) ((Ue i d).map λi:Nat=>PV.int (0+(i:Int))) [NG (.ref n),NG (.int k),NG (.ref h.length),NG (.ref (h.length+1)),u,e5,e6,e7] H= .ok (.rt (.tup [.str "row",.int r])) (h++G)) \/
  ((∀ q,1<=q->q < ls.length->ck ls k q)/\ ∃ H' e5' e6' e7',LS h H' (oI ls k ls.length) (qe ls k ls.length)/\bc ⟨NI,xs0⟩ (aX (gN 5) nL (run pg (j+2))) ((Ue i d).map λi:Nat=>PV.int (0+(i:Int))) [NG (.ref n),NG (.int k),NG (.ref h.length),NG (.ref (h.length+1)),u,e5,e6,e7] H= .ok (.nx [NG (.ref n),NG (.int k),NG (.ref h.length),NG (.ref (h.length+1)),u,e5',e6',e7']) H'):=by
 intro d
 induction d with
 | zero =>
  intro i i1 il ok H e5 e6 e7 s
  have:i=ls.length:=by omega
  subst this
  exact .inr ⟨ok,H,e5,e6,e7,s,di⟩
 | succ d ih =>
  intro i i1 il ok H e5 e6 e7 s
  obtain⟨x,ex⟩: ∃ x,ls[i]?=NG x:=⟨_,OB (by omega)⟩
  have tx:=t.2 x (OV ex)
  have l9:=t.1
  have lg:(oI ls k i).length<=10000:=by
   unfold oI;refine N5 (Qj _ _) ?_;rw[PN];omega
  have le:(qe ls k i).length<=10000:=by
   unfold qe;refine N5 (Qj _ _) ?_;rw[PN];omega
  have ci:(0:Int)+(i:Int)=(i:Int):=WM _
  have sb:=zt (k:=k) (show i≠0 by omega) ex
  cases b:qJ i k (aE x) with
  | false =>
   have rb:=rH T s en ex tx l j (k:=k) (u:=u) (e5:=e5) (e6:=e6) (e7:=e7) b
   obtain⟨G,eG⟩:=(s.app [.lst ((aE x).map PV.str)]).gr
   refine .inl ⟨i,by omega,i1,ok,?_,G,?_⟩
   . unfold ck;rw[<- sb,b];exact N6
   . rw[RY,NR,cw,ci,rb,bR,rf,eG]
  | true =>
   have ro:ck ls k i:=by unfold ck;rw[<- sb,b]
   have ok': ∀ q,1<=q->q < i+1->ck ls k q:=λq q1 q2=>by
    rcases Qu q i with z | z
    . exact ok q q1 z
    . rw[show q=i by omega];exact ro
   by_cases ik:i<=k
   . obtain⟨H',e5',s',st⟩:=ur T s en ex tx l j (k:=k) (u:=u) (e5:=e5) (e6:=e6) (e7:=e7) (by omega) ik b lg;have rg:=ro;unfold ck at rg;rw[if_pos ik] at rg;obtain⟨ws,ew⟩:=Pe.mp rg;obtain⟨x',ex',ew',_⟩:=FQ ew;rw[ex] at ex';cases ex';subst ew';obtain⟨g1,g2⟩:=wy i1 ik ew;rw[<- g1,<- g2] at s';have:=ih (i+1) (by omega) (by omega) ok' H' e5' (NG (.ref H.length)) e7 s';rw[RY,NR,cw,ci,st,bR,b6];exact this
   . obtain⟨H',e5',e7',s',st⟩:=vt T s en ex tx l j (k:=k) (u:=u) (e5:=e5) (e6:=e6) (e7:=e7) (by omega) ik b le;have rg:=ro;unfold ck at rg;rw[if_neg ik] at rg;obtain⟨ws,ew⟩:=Pe.mp rg;obtain⟨x',ex',ew',_⟩:=GV ew;rw[ex] at ex';cases ex';subst ew';obtain⟨g1,g2⟩:=vq i1 ik ew;rw[<- g1,<- g2] at s';have:=ih (i+1) (by omega) (by omega) ok' H' e5' (NG (.ref H.length)) e7' s';rw[RY,NR,cw,ci,st,bR,b6];exact this
end
def rS(ls:List Str):PV:=match rr ls with
 | .inl r=> .tup [.str "row",.int r]
 | .inr v=> .tup [.str "record",v]
theorem yJ(ls:List Str):(rS ls).flat=true:=by
 unfold rS rr;cases up ls with
 | none=>rfl
 | some us =>
  dsimp only
  split
  . rfl
  . rename_i v e;have:v=mH ls us:=by
     revert e
     split
     . intro e;cases e
     . split
       . intro e;cases e
       . intro e;cases e;rfl
    rw[this];have:=oV ls us;simp only[PV.flat,PV.bF,this,Rg]
section
variable{pg:Tb}{aNoLines:Nat}(T:dh aNoLines pg)
include T
theorem oJ(j:Nat){h:PH}{n m:Nat}{ls:List Str}(en:h[n]?=NG (.lst (ls.map PV.str)))(t:uM m ls)(l:m<=10000) :
  run pg (j+3) "_law_read" [.ref n] h= .ok (rS ls) h:=by
 rw[run_eq T.om rfl (by rw[T.gL];rfl)];have ln:=λg=>j7 (h:=h++g) (xs:=ls.map PV.str) (n:=n) (by rw[N3 ((NN.mp en).1)];exact en);simp only[NU] at ln;have l9:=t.1;have tn:Tc (ls.length:Int)=ls.length:=QN _;have s0:LS h (h++[.lst [],.lst []]) [] []:=⟨⟨_,rfl⟩,aF,by rw[aN];rfl⟩
 have okT: ∀ x∈ls,PJ x=true:=λx mx=>(t.2 x mx).ok;have A: ∀(r:Nat)(G:PH),rr ls= .inl r->bc ⟨NI,aw 0 ls.length⟩ (aX (gN 5) nL (run pg (j+2))) (aw 0 ls.length) [NG (.ref n),NG (.int 0),NG (.ref h.length),NG (.ref (h.length+1)),NG (.tup []),NI,NI,NI] (h++[.lst [],.lst []])= .ok (.rt (.tup [.str "row",.int r])) (h++G)->fin h (a8.body (run pg (j+2)) ([PV.ref n].map NG++NM a8.nl NI) h)= .ok (rS ls) h:=λr G er lp=>by
  unfold nL C7 EJ G8 at lp;simp? [a8,cT,ln,tn,lp,Sl];unfold rS;rw[er];exact bX rfl
 have B: ∀(k:Nat)(u:PV)(gs es:List PV)(H':PH)(e5 e6 e7:Option PV),LS h H' gs es->bc ⟨NI,aw 0 ls.length⟩ (aX (gN 5) nL (run pg (j+2))) (aw 0 ls.length) [NG (.ref n),NG (.int 0),NG (.ref h.length),NG (.ref (h.length+1)),NG (.tup []),NI,NI,NI] (h++[.lst [],.lst []])= .ok (.nx [NG (.ref n),NG (.int k),NG (.ref h.length),NG (.ref (h.length+1)),NG u,e5,e6,e7]) H'->(rS ls=if ls=[]\/gs.length < k then .tup [.str "row",.int ls.length] else .tup [.str "record",.tup [u,.tup gs,.tup es]])->fin h (a8.body (run pg (j+2)) ([PV.ref n].map NG++NM a8.nl NI) h)= .ok (rS ls) h:=λk u gs es H' e5 e6 e7 s lp rv=>by
  unfold nL C7 EJ G8 at lp;have fl:=yJ ls;have n1:fZ (.ref n) (.ref H'.length) (H'++[.lst []])= .ok (.bl (decide (ls=[]))) (H'++[.lst []]):=eq_nil ((s.app _).at en) aF okT;have lL: ∀ X,bB [.ref n] (H'++X)= .ok (.int ls.length) (H'++X):=λX=>by rw[j7 (xs:=ls.map PV.str) ((s.app X).at en),NU]
  have lG: ∀ X,bB [.ref h.length] (H'++X)= .ok (.int gs.length) (H'++X):=λX=>j7 (s.app X).g;have t1: ∀ X,aH [.ref h.length] (H'++X)= .ok (.tup gs) (H'++X):=λX=>cQ (s.app X).g;have t2: ∀ X,aH [.ref (h.length+1)] (H'++X)= .ok (.tup es) (H'++X):=λX=>cQ (s.app X).e;obtain⟨G,eG⟩:=s.gr;have fz: ∀ v,v.flat=true->P3.settle h v (H'++[.lst []])= .ok v h:=λv fv=>by rw[eG,N0];exact bX fv
  by_cases z:ls=[]
  . rw[if_pos (.inl z)] at rv;rw[rv] at fl ⊢;have z1:=eq_true z;simp? [a8,cT,ln,tn,lp,n1,lL,z1,Sl];exact fz _ fl
  . by_cases y:gs.length < k
    . have y1:(gs.length:Int) < (k:Int):=by omega
      rw[if_pos (.inr y)] at rv;rw[rv] at fl ⊢;simp? [a8,cT,ln,tn,lp,n1,lL,lG,z,y1,Sl];exact fz _ fl
    . have y1: ¬ (gs.length:Int) < (k:Int):=by omega
      rw[if_neg (λq=>q.elim z y)] at rv;rw[rv] at fl ⊢;simp? [a8,cT,ln,tn,lp,n1,lL,lG,t1,t2,z,y1,Sl];exact fz _ fl
 cases q:ls.length with
 | zero =>
  have z:ls=[]:=List.length_eq_zero_iff.mp q
  refine B 0 (.tup []) [] [] (h++[.lst [],.lst []]) NI NI NI s0 (by rw[q];rfl) ?_
  rw[if_pos (.inl z)]
  subst z
  rfl
 | succ d =>
  obtain⟨x,ex⟩: ∃ x,ls[0]?=NG x:=⟨_,OB (by omega)⟩
  have tx:=t.2 x (OV ex)
  have rg:aw 0 ls.length= .int ((0:Nat):Int)::(Ue 1 d).map λi:Nat=>PV.int (0+(i:Int)):=by
   unfold P3.aw;rw[q,List.range_eq_range',RY,NR];rfl
  have sr: ∀(F:List PV->RV Fl)(r:RV Fl),F (.int ((0:Nat):Int)::(Ue 1 d).map λi:Nat=>PV.int (0+(i:Int)))=r->F (aw 0 ls.length)=r:=λF r z=>by rw[rg];exact z
  cases b:qJ 0 0 (aE x) with
  | false =>
   have rb:=rH T s0 en ex tx l j (k:=0) (u:=NG (.tup [])) (e5:=NI) (e6:=NI) (e7:=NI) b
   refine A 0 _ ?_ (by rw[rg,cw];rw[show((0:Nat):Int)=0 from rfl] at rb ⊢; rw[rb,bR,rf,N0])
   unfold rr
   rw[nZ (k:=0) ex,b];rfl
  | true =>
   have r0:=vD T s0 en ex tx l j (k:=0) (u:=NG (.tup [])) (e5:=NI) (e6:=NI) (e7:=NI) rfl b
   have hu:up ls=NG (aE x).tail:=by rw[nZ (k:=0) ex,b];rfl
   have g0:oI ls (aE x).tail.length 1=[]:=by unfold oI;rw[RO,Nat.zero_min];rfl
   have e0:qe ls (aE x).tail.length 1=[]:=by unfold qe;rw[show 1 - (1+(aE x).tail.length)=0 by omega];rfl
   have s1:LS h (h++[.lst [],.lst []]++[.lst ((aE x).map PV.str),.lst ((aE x).tail.map PV.str),.lst ((aE x).tail.map c5)]) (oI ls (aE x).tail.length 1) (qe ls (aE x).tail.length 1):=by rw[g0,e0];exact s0.app _
   have rl:=tJ T j en t l (k:=(aE x).tail.length) (u:=NG (.tup ((aE x).tail.map c5))) (xs0:=aw 0 ls.length) d 1 (NS 1) (by omega) (λq a b=>absurd a (by omega)) _ (NG (.int ((0:Nat):Int))) (NG (.ref (h++[PO.lst [],PO.lst []]).length)) NI s1
   have st: ∀ ys,bc ⟨NI,aw 0 ls.length⟩ (aX (gN 5) nL (run pg (j+2))) (.int ((0:Nat):Int)::ys) [NG (.ref n),NG (.int 0),NG (.ref h.length),NG (.ref (h.length+1)),NG (.tup []),NI,NI,NI] (h++[.lst [],.lst []])=bc ⟨NI,aw 0 ls.length⟩ (aX (gN 5) nL (run pg (j+2))) ys [NG (.ref n),NG (.int (aE x).tail.length),NG (.ref h.length),NG (.ref (h.length+1)),NG (.tup ((aE x).tail.map c5)),NG (.int ((0:Nat):Int)),NG (.ref (h++[PO.lst [],PO.lst []]).length),NI] (h++[.lst [],.lst []]++[.lst ((aE x).map PV.str),.lst ((aE x).tail.map PV.str),.lst ((aE x).tail.map c5)]):=λys=>by
    rw[cw];exact(congrArg (RV.bind · _) r0).trans (by rw[bR,b6])
   rcases rl with⟨r,rl,r1,ok,nb,G,lp⟩ | ⟨ok,H',e5',e6',e7',s',lp⟩
   . exact A r G (C4 hu r1 rl ok nb) ((sr (λz=>bc ⟨NI,aw 0 ls.length⟩ (aX (gN 5) nL (run pg (j+2))) z [NG (.ref n),NG (.int 0),NG (.ref h.length),NG (.ref (h.length+1)),NG (.tup []),NI,NI,NI] (h++[.lst [],.lst []])) _ (st _)).trans lp)
   . refine B (aE x).tail.length (.tup ((aE x).tail.map c5)) _ _ H' e5' e6' e7' s' ((sr (λz=>bc ⟨NI,aw 0 ls.length⟩ (aX (gN 5) nL (run pg (j+2))) z [NG (.ref n),NG (.int 0),NG (.ref h.length),NG (.ref (h.length+1)),NG (.tup []),NI,NI,NI] (h++[.lst [],.lst []])) _ (st _)).trans lp) ?_;have nz:ls≠[]:=λz=>by rw[z] at q;cases q
     have gl:=FJ ok;unfold rS;by_cases sh:ls.length - 1 < (aE x).tail.length
     . rw[wR hu ok sh,if_pos (.inr (by rw[gl];omega))]
     . rw[yL hu ok (by omega),if_neg (λz=>z.elim nz (by rw[gl];omega))]
end
noncomputable def tF(ns:List Int):PO:= .gO (ns.map PV.int)
abbrev Fd:=Int × Int × Int
noncomputable def yt(t:Fd):PO:= .lst [.ref 5,.int t.1,.int t.2.1,.int t.2.2]
def hp(ns:List Int)(x1 x2 x3 x4:PO)(cs:List Int)(t:Fd)(g:PH):PH:=tF ns::x1::x2::x3::x4:: .lst (cs.map PV.int)::yt t::g
theorem EH{t:Fd}{n:Nat}:(yt t).fJ (n+6)=true:=by simp[yt,PO.fJ,PV.fD,PV.fJ]
theorem qP{xs:List Int}{v:Int}(h0:0<=v)(h1:v < xs.length): ∃ x∈xs,fE (xs.map PV.int) v=NG (.int x):=by
 obtain⟨n,en⟩:=RA h0;subst en;have hn:n < xs.length:=by omega
 exact⟨xs[n],Vv hn,P3.cO rfl (by rw[OD,OB hn];rfl)⟩
theorem Gh{ss:List Str}{v:Int}(h0:0<=v)(h1:v < ss.length): ∃ x∈ss,fE (ss.map PV.str) v=NG (.str x):=by
 obtain⟨n,en⟩:=RA h0;subst en;have hn:n < ss.length:=by omega
 exact⟨ss[n],Vv hn,P3.cO rfl (by rw[OD,OB hn];rfl)⟩
section
variable{h:PH}{n:Nat}{x y z w v:PV}
theorem wY:xp n (.int 1) v h (NG (.lst [x,y,z,w]))= .ok () (h.set n (.lst [x,v,z,w])):=rfl
theorem qZ:xp n (.int 2) v h (NG (.lst [x,y,z,w]))= .ok () (h.set n (.lst [x,y,v,w])):=rfl
theorem qQ:xp n (.int 3) v h (NG (.lst [x,y,z,w]))= .ok () (h.set n (.lst [x,y,z,v])):=rfl
end
section
variable{ns cs:List Int}{x1 x2 x3 x4:PO}{t t':Fd}{g g':PH}{v:PV}
theorem AH(hv:v.flat=true):P3.settle (hp ns x1 x2 x3 x4 cs t g) v (hp ns x1 x2 x3 x4 cs t' (g++g'))= .ok v (hp ns x1 x2 x3 x4 cs t' g) :=
 qa (h:=hp ns x1 x2 x3 x4 cs t g) (g:=g') (i:=6) (o:=yt t) (o':=yt t') hv rfl rfl (by rw[show(hp ns x1 x2 x3 x4 cs t g).length=(g.length+1)+6 from rfl];exact EH)
theorem oh:P3.settle (hp ns x1 x2 x3 x4 cs t g) v (hp ns x1 x2 x3 x4 cs t' g)= .ok v (hp ns x1 x2 x3 x4 cs t' g):=pS (h:=hp ns x1 x2 x3 x4 cs t g) (i:=6) (o:=yt t) (o':=yt t')
end
section
variable{pg:Tb}{aNoLines:Nat}(T:dh aNoLines pg)
include T
theorem Hq(j:Nat){ns cs:List Int}(hc:cs≠[]){x1 x2 x3 x4:PO}(t:Fd)(m:Int)(m0:0 < m)(m9:m<=1000000): ∃(v:Int)(t':Fd),0<=v/\v < m/\ ∀ g,run pg (j+1) "_law_take" [.ref 6,.int m] (hp ns x1 x2 x3 x4 cs t g)= .ok (.int v) (hp ns x1 x2 x3 x4 cs t' g):=by
 obtain⟨a,b,c⟩:=t;have t18:(10:Int) ^ Tc 18=1000000000000000000:=by decide +kernel
 have t18b:(10:Int) ^ 18=1000000000000000000:=by decide +kernel
 have mm:0 < m/\m < 18446744073709551616:=by omega
 have b0: ∀{t t':Fd}{g:PH}{v:PV},P3.settle (hp ns x1 x2 x3 x4 cs t g) v (hp ns x1 x2 x3 x4 cs t' g)= .ok v (hp ns x1 x2 x3 x4 cs t' g):=oh;have m1: ∀(i:Int) h,eN (.int i) (.int 48271) h= .ok (.int (i*48271)) h:=λi h=>rA (by omega);have m2: ∀(i:Int) h,eN (.int i) (.int 69621) h= .ok (.int (i*69621)) h:=λi h=>rA (by omega);by_cases z:b=0
 . subst z;have cl:0 < (cs.length:Int):=by have:=Qm.mpr hc;omega
   obtain⟨x,_,ex⟩:=qP (xs:=cs) (v:=a % (cs.length:Int)) (Rn _ (by omega)) (Qx _ cl);by_cases y:x < 1000000000000000000
   . let u:Int:=(x % 2147483629+1009*(c+1))*48271 % 2147483647
     let w:Int:=(u / 11+31*(c+1))*69621 % 2147483587
     refine⟨w / 7 % m,(a+1,0,c+1),Rn _ (by omega),Qx _ m0,λg=>?_⟩;rw[run_eq T.fc rfl (by rw[T.gL];rfl)];simp only[hp,yt] at b0 ⊢;simp? (disch:=first | omega | exact mm) only[cx,dE,NU,ex,y,t18,t18b,m1,m2,fC,p9,qu,vn,wY,qZ,qQ];exact b0 (t:=(a,0,c)) (t':=(a+1,0,c+1))
   . refine⟨x % m,(a+1,x / m,c+1),Rn _ (by omega),Qx _ m0,λg=>?_⟩;rw[run_eq T.fc rfl (by rw[T.gL];rfl)];simp only[hp,yt] at b0 ⊢;simp? (disch:=first | omega | exact mm) only[cx,dE,NU,ex,y,t18,t18b,fC,p9,qu,vn,wY,qZ,qQ];exact b0 (t:=(a,0,c)) (t':=(a+1,x / m,c+1))
 . refine⟨b % m,(a,b / m,c+1),Rn _ (by omega),Qx _ m0,λg=>?_⟩;rw[run_eq T.fc rfl (by rw[T.gL];rfl)];simp only[hp,yt] at b0 ⊢;simp? (disch:=first | omega | exact mm) only[cx,dE,z,fC,p9,qu,vn,qZ,qQ];exact b0 (t:=(a,b,c)) (t':=(a,b / m,c+1))
theorem y6(j:Nat)(ns:List Int): ∃ x1 x2 x3 x4 cs,cs≠[]/\run pg (j+1) "_law_feed" [.ref 0,.int 0] [tF ns]= .ok (.ref 6) (hp ns x1 x2 x3 x4 cs (0,0,0) []):=by
 have cu:cS (ns.map PV.int) NI (NG 63)=(ns.take 63).map PV.int:=by rw[P3.m6 (by decide),UB];rfl
 rw[run_eq T.pI rfl (by rw[T.gL];rfl)];by_cases z:ns=[]
 . subst z;refine⟨.lst [],.lst [],.lst [.int 0],.lst [.int 0],[0],by simp,?_⟩;rfl
 . have ln: ∀ g,bB [.ref 0] (tF ns::g)= .ok (.int ns.length) (tF ns::g):=λg=>by rw[Hg (xs:=ns.map PV.int) rfl,NU]
   have z1: ¬ (ns.length:Int)=0:=by have:=Qm.mpr z;omega
   have iB: ∀ g,cY [.bl false] g= .ok (.int 0) g:=λg=>rfl;have mu: ∀ a b:PO,eN (.ref (0+1+1+1)) (.int 0) [tF ns,a,b,.lst [.int 0]]= .ok (.ref 4) [tF ns,a,b,.lst [.int 0],.lst []]:=λa b=>rfl;have ad: ∀(xs:List PV)(a b:PO),xs.length<=1000->az (.ref (0+1+1)) (.ref 4) [tF ns,a,.lst xs,b,.lst []]= .ok (.ref 5) [tF ns,a,.lst xs,b,.lst [],.lst (xs++[])]:=λxs a b l=>jz rfl rfl (by simp;omega);refine⟨.lst ((ns.take 63).map PV.int),.lst ((ns.take 63).map PV.int),.lst [.int 0],.lst [],ns.take 63,by simpa using z,?_⟩;have l63:((ns.take 63).map PV.int).length<=1000:=by rw[NU,OJ];omega
   have ad':=λa b=>ad _ a b l63;rw[Ov] at ad';simp? [dG,iU,tF,cu];simp only[tF] at ln mu ad';simp? [NU,ln,z1,iB,mu,ad'];exact bC rfl
end
structure Rc where
 up:List Int
 gs:List (List (Option Int))
 es:List (Int × Int × Int × Int)
noncomputable def bJ:Option Int->PV
 | none=> .non
 | some i=> .int i
def sh:Option Int->Str
 | none=> "-"
 | some i=>fw i
def j2(o:Option Int):Prop:= ∀ i,o=NG i->0<=i/\i<=big
noncomputable def d0(e:Int × Int × Int × Int):PV:= .tup [.tup [.int e.1,.int e.2.1],.tup [.int e.2.2.1,.int e.2.2.2]]
noncomputable def four(e:Int × Int × Int × Int):List (Option Int):=[NG e.1,NG e.2.1,NG e.2.2.1,NG e.2.2.2]
def Rc.v(r:Rc):PV:= .tup [.tup (r.up.map PV.int),.tup (r.gs.map λg=> .tup (g.map bJ)),.tup (r.es.map d0)]
def ba(w:Str)(os:List (Option Int)):Str:=jn (w::os.map sh)
def Rc.ls(r:Rc):List Str:=ba "upto" (r.up.map NG)::(r.gs.map (ba "gifts")++r.es.map λe=>ba "edge" (four e))
structure Rc.Ok(r:Rc):Prop where
 u:r.up.length<=4/\ ∀ i∈r.up,j2 (NG i)
 g:r.gs.length<=4/\ ∀ g∈r.gs,g.length<=4/\ ∀ o∈g,j2 o
 e:r.es.length<=7/\ ∀ e∈r.es,∀ o∈four e,j2 o
theorem vQ{o:Option Int}(h:j2 o):Tx 40 (sh o):=by
 cases o with
 | none=>exact(by decide +kernel:Tx 40 (NP "-"))
 | some i =>
  obtain⟨a,b⟩:=h i rfl
  have:=lF a b
  exact⟨this.2,this.1⟩
theorem ny{w:Str}{os:List (Option Int)}(hw:Tx 40 w)(l:os.length<=4)(h: ∀ o∈os,j2 o):Tx 205 (ba w os):=by
 have k:=Tx.jn (ws:=w::os.map sh) (n:=40) (λv mv=>by
  rcases Ot.mp mv with rfl | mv
  . exact hw
  . obtain⟨o,mo,rfl⟩:=Pb.mp mv;exact vQ (h o mo))
 refine k.mono ?_;rw[NK,NU];have:(os.length+1)*(40+1)<=5*41:=QY _ (by omega);omega
theorem Rc.Ok.tx{r:Rc}(ok:r.Ok):r.ls.length<=12/\ ∀ x∈r.ls,Tx 205 x:=by
 constructor
 . have:=ok.g.1;have:=ok.e.1;unfold Rc.ls;simp only[NK,NX,NU];omega
 . intro x mx;unfold Rc.ls at mx;rcases Ot.mp mx with rfl | mx
   . exact ny (by decide +kernel) (by rw[NU];exact ok.u.1) λo mo=>by obtain⟨i,mi,rfl⟩:=Pb.mp mo;exact ok.u.2 i mi
   rcases ON.mp mx with mx | mx
   . obtain⟨g,mg,rfl⟩:=Pb.mp mx;exact ny (by decide +kernel) (ok.g.2 g mg).1 (ok.g.2 g mg).2
   . obtain⟨e,me,rfl⟩:=Pb.mp mx;exact ny (by decide +kernel) (NS 4) (ok.e.2 e me)
section
variable{pg:Tb}{aNoLines:Nat}(T:dh aNoLines pg)
include T
theorem jj(j:Nat){h:PH}{o:Option Int}(b:j2 o):run pg (j+1) "shown_number" [bJ o] h= .ok (.str (sh o)) h:=by
 rw[run_eq T.jE rfl (by rw[T.gL];rfl)];cases o with
 | none=>simp? [bV,dq,bJ,sh]
 | some i =>
  obtain⟨a,c⟩:=b i rfl
  have st:=λg=>fT (h:=g) a c
  simp? [bV,dq,bJ,sh,st]
theorem gJ(j:Nat){h:PH}{w:Str}{os:List (Option Int)}(hw:Tx 40 w)(l:os.length<=4)(b: ∀ o∈os,j2 o):run pg (j+2) "line_of" [.str w,.tup (os.map bJ)] h= .ok (.str (ba w os)) h:=by
 rw[run_eq T.tH rfl (by rw[T.gL];rfl)];have lc:P3.eO ⟨NI,os.map bJ⟩ (bp 1 (gN 2) aU (ai "shown_number" (a1 (aa 2))) (run pg (j+1)) [NG (.str w),NG (.tup (os.map bJ))]) (os.map bJ) [] (h++[.lst [.str w]])= .ok ((os.map sh).map PV.str) (h++[.lst [.str w]]):=by
  refine(cH (α :=Option Int) rfl os [] (f:=λo=>NG (.str (sh o))) (λo mo=>?_) (by simp only[N4];omega)).trans ?_
  . have g:=λg=>jj T j (h:=g) (b o mo);simp? [g]
  . rw[Oo,Pr,Sn];rfl
 have ad:az (.ref h.length) (.ref (h.length+(0+1))) (h++[.lst [.str w],.lst ((os.map sh).map PV.str)])= .ok (.ref (h.length+(0+1+1))) (h++[.lst [.str w],.lst ((os.map sh).map PV.str),.lst ((w::os.map sh).map PV.str)]):=by
  rw[jz (xs:=[.str w]) (ys:=(os.map sh).map PV.str) aF (by rw[aN];rfl) (by simp only[NU,NK,N4];omega),NX,N0];rfl
 have jo:gj (.str " ") [.ref (h.length+(0+1+1))] (h++[.lst [.str w],.lst ((os.map sh).map PV.str),.lst ((w::os.map sh).map PV.str)])= .ok (.str (ba w os)) _:=wQ (ss:=w::os.map sh) (by rw[aN];rfl) (zv (n:=40) (λv mv=>by
  rcases Ot.mp mv with rfl | mv
  . exact hw.2
  . obtain⟨o,mo,rfl⟩:=Pb.mp mv;exact(vQ (b o mo)).2) (by
  rw[NK,NU];have:(os.length+1)*(40+1)<=5*41:=QY _ (by omega);omega))
 rw[NR (f:=PV.str)] at jo ad;simp? [fS,l3,fU,pz,bD,lc,ad,jo];exact bX rfl
theorem eK(j:Nat){h:PH}{r:Rc}(ok:r.Ok): ∃ G,run pg (j+3) "record_lines" [r.v] h= .ok (.ref h.length) (h++ .lst (r.ls.map PV.str)::G):=by
 rw[run_eq T.ki rfl (by rw[T.gL];rfl)];have u1:r.up.map PV.int=(r.up.map NG).map bJ:=by rw[Sn];rfl
 have lu:=λg=>gJ T j (h:=g) (w:= "upto") (os:=r.up.map NG) (by decide +kernel) (by rw[NU];exact ok.u.1) (λo mo=>by obtain⟨i,mi,rfl⟩:=Pb.mp mo;exact ok.u.2 i mi);rw[<- u1] at lu;have gl:=ok.g.1;have el:=ok.e.1
 let L1:List Str:=[ba "upto" (r.up.map NG)]
 let L2:List Str:=r.gs.map (ba "gifts")
 let L3:List Str:=r.es.map λe=>ba "edge" (four e)
 have lg:P3.eO ⟨NI,r.gs.map λg=> .tup (g.map bJ)⟩ (bp 1 (gN 2) aU (ai "line_of" (a2 (eS "gifts") (aa 2))) (run pg (j+2)) [NG r.v,NG (.ref h.length)]) (r.gs.map λg=> .tup (g.map bJ)) [] (h++[.lst (L1.map PV.str)])= .ok (L2.map PV.str) (h++[.lst (L1.map PV.str)]):=by
  refine(cH (α :=List (Option Int)) rfl r.gs [] (f:=λg=>NG (.str (ba "gifts" g))) (λg mg=>?_) (by simp only[N4];omega)).trans ?_
  . have q:=λk=>gJ T j (h:=k) (w:= "gifts") (os:=g) (by decide +kernel) (ok.g.2 g mg).1 (ok.g.2 g mg).2;simp? [q]
  . rw[Oo,Pr,Sn];rfl
 have le: ∀ X,P3.eO ⟨NI,r.es.map d0⟩ (bp 2 (gT 2 (bW (gN 2) (bW (gN 3) f9))) aU (ai "line_of" (ag (eS "edge") (ag (aD az (aa 2) (aa 3)) aA))) (run pg (j+2)) [NG r.v,NG (.ref h.length)]) (r.es.map d0) [] X= .ok (L3.map PV.str) X:=λX=>by
  refine(cH (α :=Int × Int × Int × Int) rfl r.es [] (f:=λe=>NG (.str (ba "edge" (four e)))) (λe me=>?_) (by simp only[N4];omega)).trans ?_
  . have q:=λk=>gJ T j (h:=k) (w:= "edge") (os:=four e) (by decide +kernel) (NS 4) (ok.e.2 e me);simp only[four,NR,OG,bJ] at q;have ad: ∀(a b c d:PV) g,az (.tup [a,b]) (.tup [c,d]) g= .ok (.tup [a,b,c,d]) g:=λa b c d g=>m8 (xs:=[a,b]) (ys:=[c,d]) (by simp);simp? [d0,ad,q];rfl
  . rw[Oo,Pr,Sn];rfl
 have x1:dM (.ref h.length) [.ref (h.length+(0+1))] (h++[.lst (L1.map PV.str),.lst (L2.map PV.str)])= .ok .non (h++[.lst ((L1++L2).map PV.str),.lst (L2.map PV.str)]):=by
  unfold dM;simp only[aF,aN,Ry,RB];rw[et (by simp only[NU,L1,L2,NK,N4];omega),Px _ _ (NS _),RO,<- QC];rfl
 have x2:dM (.ref h.length) [.ref (h.length+(0+1+1))] (h++[.lst ((L1++L2).map PV.str),.lst (L2.map PV.str),.lst (L3.map PV.str)])= .ok .non (h++[.lst ((L1++L2++L3).map PV.str),.lst (L2.map PV.str),.lst (L3.map PV.str)]):=by
  unfold dM;simp only[aF,aN,Ry,RB];rw[et (by simp only[NU,NX,L1,L2,L3,NK,N4];omega),Px _ _ (NS _),RO,<- QC];rfl
 have e0:r.ls=L1++L2++L3:=by
  show r.ls=[ba "upto" (r.up.map NG)]++r.gs.map (ba "gifts")++(r.es.map λe=>ba "edge" (four e));rw[N0];rfl
 have il: ∀(xs:List PV) X,bf (.ref h.length) (h++ .lst xs::X)=true:=λxs X=>dH aF;have e1:(ba "upto" (r.up.map NG))::[]=L1:=rfl;refine⟨[.lst (L2.map PV.str),.lst (L3.map PV.str)],?_⟩;rw[e0];have p1:[PV.str (ba "upto" (r.up.map NG))]=L1.map PV.str:=rfl;have l1:(L1.map PV.str).length=1:=rfl
 clear_value L1 L2 L3
 have v0:r.v= .tup [.tup (r.up.map PV.int),.tup (r.gs.map λg=> .tup (g.map bJ)),.tup (r.es.map d0)]:=rfl;rw[v0] at lg le ⊢;simp? [cI,fq,lu,lg,le,p1,l1,fU,pz,il,x1,x2,fC,p9,qu];exact bC rfl
end
def K7:MS:=(oM nv (aa 1) (eI 0) (aD az (aD az (eX 1 0) (eS " ")) (eB c9 (a1 (aa 2)))))
def KH:MS:=(aj (ar (eS "gifts") (gN 4)) (aj (eR (gE (aa 3)) (gN 5) (ar (aD az (aD az (aa 4) (eS " ")) (qY (aV (nM (mU false) (aa 5))) (eS "-") (eB c9 (a1 (aa 5))))) (gN 4))) (cK (eM bt bf (aa 1) (a1 (aa 4))))))
def Kw:MS:=(aj (ar (eS "edge") (gN 4)) (aj (eR (gE (aD az (aa 6) (aa 7))) (gN 2) (ar (aD az (aD az (aa 4) (eS " ")) (eB c9 (a1 (aa 2)))) (gN 4))) (cK (eM bt bf (aa 1) (a1 (aa 4))))))
def Kl:MS:=(ar (aD az (aD az (aa 4) (eS " ")) (qY (aV (nM (mU false) (aa 5))) (eS "-") (eB c9 (a1 (aa 5))))) (gN 4))
def KS:MS:=(ar (aD az (aD az (aa 4) (eS " ")) (eB c9 (a1 (aa 2)))) (gN 4))
def fo(a:Str)(os:List (Option Int)):Str:=os.foldl (λ(a:Str) o=>a++ " " ++sh o) a
theorem jR(w:Str)(os:List (Option Int)):ba w os=fo w os:=by unfold ba fo;rw[rW,List.foldl_map]
theorem m3{a:Str}{o:Option Int}{os:List (Option Int)}:fo a (o::os)=fo (a++ " " ++sh o) os:=rfl
theorem Dx{h:PH}{n:Nat}{x v:PV}:xp n (.int 0) v h (NG (.lst [x]))= .ok () (h.set n (.lst [v])):=rfl
theorem uP{a:Str}{o:Option Int}(l:a.length<=5000)(b:j2 o):(∀ g,az (.str a) (.str " ") g= .ok (.str (a++ " ")) g)/\(∀ g,az (.str (a++ " ")) (.str (sh o)) g= .ok (.str (a++ " " ++sh o)) g)/\(a++ " " ++sh o).length<=a.length+41:=by
 have l1:(NP " ").length=1:=by decide +kernel
 have l2:=(vQ b).2;refine⟨λg=>sC (by omega),λg=>sC (by rw[dy];omega),by rw[dy,dy];omega⟩
section
variable{c:CF}{h:PH}{xs0:List PV}{v0:PV}
theorem FO: ∀(xs:List Int)(a:Str)(e2:Option PV),(∀ i∈xs,j2 (NG i))->a.length+41*xs.length<=5000-> ∃ e2':Option PV,
  bc ⟨NI,xs0⟩ (aX (gN 2) K7 c) (xs.map PV.int) [NG v0,NG (.ref h.length),e2,NI,NI,NI,NI,NI] (h++[.lst [.str a]])= .ok (.nx [NG v0,NG (.ref h.length),e2',NI,NI,NI,NI,NI]) (h++[.lst [.str (fo a (xs.map NG))]]):=by
 intro xs
 induction xs with
 | nil=>intro a e2 _ _;exact⟨e2,di⟩
 | cons i xs ih =>
  intro a e2 b l
  have bi:=b i N1
  rw[NK] at l
  obtain⟨a1,a2,a3⟩:=uP (a:=a) (by omega) bi
  obtain⟨i0,i9⟩:=bi i rfl
  have st:=λg=>fT (h:=g) i0 i9
  simp only[sh] at a2 a3
  obtain⟨e2',g⟩:=ih (a++ " " ++fw i) (NG (.int i)) (λq m=>b q (NW _ m)) (by omega)
  refine⟨e2',?_⟩
  have s1:aX (gN 2) K7 c (.int i) [NG v0,NG (.ref h.length),e2,NI,NI,NI,NI,NI] (h++[.lst [.str a]])= .ok (.nx [NG v0,NG (.ref h.length),NG (.int i),NI,NI,NI,NI,NI]) (h++[.lst [.str (a++ " " ++fw i)]]):=by
   simp? [K7,fC,a1,a2,st,Dx]
  rw[NR,cw,s1,bR,b6,g,NR,m3]
  rfl
theorem zT{r1 e2 e3 e6 e7:Option PV}: ∀(os:List (Option Int))(a:Str)(e5:Option PV),(∀ o∈os,j2 o)->a.length+41*os.length<=5000-> ∃ e5':Option PV,
  bc ⟨NI,xs0⟩ (aX (gN 5) Kl c) (os.map bJ) [NG v0,r1,e2,e3,NG (.str a),e5,e6,e7] h= .ok (.nx [NG v0,r1,e2,e3,NG (.str (fo a os)),e5',e6,e7]) h:=by
 intro os
 induction os with
 | nil=>intro a e5 _ _;exact⟨e5,di⟩
 | cons o os ih =>
  intro a e5 b l
  have bi:=b o N1
  rw[NK] at l
  obtain⟨a1,a2,a3⟩:=uP (a:=a) (by omega) bi
  obtain⟨e5',g⟩:=ih (a++ " " ++sh o) (NG (bJ o)) (λq m=>b q (NW _ m)) (by omega)
  refine⟨e5',?_⟩
  have s1:aX (gN 5) Kl c (bJ o) [NG v0,r1,e2,e3,NG (.str a),e5,e6,e7] h= .ok (.nx [NG v0,r1,e2,e3,NG (.str (a++ " " ++sh o)),NG (bJ o),e6,e7]) h:=by
   cases o with
   | none =>
    simp only[sh] at a2
    simp? [Kl,bJ,sh,a1,a2]
   | some i =>
    obtain⟨i0,i9⟩:=bi i rfl
    have st:=λg=>fT (h:=g) i0 i9
    simp only[sh] at a2
    simp? [Kl,bJ,sh,a1,a2,st]
  rw[NR,cw,s1,bR,b6,g,m3]
theorem AM{r1 e3 e5 e6 e7:Option PV}: ∀(xs:List Int)(a:Str)(e2:Option PV),(∀ i∈xs,j2 (NG i))->a.length+41*xs.length<=5000-> ∃ e2':Option PV,
  bc ⟨NI,xs0⟩ (aX (gN 2) KS c) (xs.map PV.int) [NG v0,r1,e2,e3,NG (.str a),e5,e6,e7] h= .ok (.nx [NG v0,r1,e2',e3,NG (.str (fo a (xs.map NG))),e5,e6,e7]) h:=by
 intro xs
 induction xs with
 | nil=>intro a e2 _ _;exact⟨e2,di⟩
 | cons i xs ih =>
  intro a e2 b l
  have bi:=b i N1
  rw[NK] at l
  obtain⟨a1,a2,a3⟩:=uP (a:=a) (by omega) bi
  obtain⟨i0,i9⟩:=bi i rfl
  have st:=λg=>fT (h:=g) i0 i9
  simp only[sh] at a2 a3
  obtain⟨e2',g⟩:=ih (a++ " " ++fw i) (NG (.int i)) (λq m=>b q (NW _ m)) (by omega)
  refine⟨e2',?_⟩
  have s1:aX (gN 2) KS c (.int i) [NG v0,r1,e2,e3,NG (.str a),e5,e6,e7] h= .ok (.nx [NG v0,r1,NG (.int i),e3,NG (.str (a++ " " ++fw i)),e5,e6,e7]) h:=by
   simp? [KS,a1,a2,st]
  rw[NR,cw,s1,bR,b6,g,NR,m3]
  rfl
theorem FR: ∀(gs:List (List (Option Int)))(acc:List PV)(e3 e4 e5:Option PV){e2:Option PV},(∀ g∈gs,g.length<=4/\ ∀ o∈g,j2 o)->acc.length+gs.length<=1000-> ∃ e3' e4' e5':Option PV,
  bc ⟨NI,xs0⟩ (aX (gN 3) KH c) (gs.map λg=> .tup (g.map bJ)) [NG v0,NG (.ref h.length),e2,e3,e4,e5,NI,NI] (h++[.lst acc])= .ok (.nx [NG v0,NG (.ref h.length),e2,e3',e4',e5',NI,NI]) (h++[.lst (acc++(gs.map (ba "gifts")).map PV.str)]):=by
 intro gs
 induction gs with
 | nil=>intro acc e3 e4 e5 e2 _ _;exact⟨e3,e4,e5,by rw[OG,OG,OG,Ov];exact di⟩
 | cons g gs ih =>
  intro acc e3 e4 e5 e2 b l
  obtain⟨g4,bg⟩:=b g N1
  rw[NK] at l
  have l5:(NP "gifts").length=5:=by decide +kernel
  obtain⟨e5',lp⟩:=zT (c:=c) (h:=h++[.lst acc]) (xs0:=g.map bJ) (v0:=v0) (r1:=NG (.ref h.length)) (e2:=e2) (e3:=NG (.tup (g.map bJ))) (e6:=NI) (e7:=NI) g "gifts" e5 bg (by omega)
  rw[<- jR] at lp
  unfold Kl at lp
  obtain⟨f3,f4,f5,k⟩:=ih (acc++[.str (ba "gifts" g)]) (NG (.tup (g.map bJ))) (NG (.str (ba "gifts" g))) e5' (e2:=e2) (λq m=>b q (NW _ m)) (by rw[NX];simp only[NK,N4];omega)
  refine⟨f3,f4,f5,?_⟩
  have il: ∀(xs:List PV) X,bf (.ref h.length) (h++ .lst xs::X)=true:=λxs X=>dH aF
  have s1:aX (gN 3) KH c (.tup (g.map bJ)) [NG v0,NG (.ref h.length),e2,e3,e4,e5,NI,NI] (h++[.lst acc])= .ok (.nx [NG v0,NG (.ref h.length),e2,NG (.tup (g.map bJ)),NG (.str (ba "gifts" g)),e5',NI,NI]) (h++[.lst (acc++[.str (ba "gifts" g)])]):=by
   simp? [KH,lp,fU,pz,il]
  rw[NR,cw,s1,bR,b6,k,NR,NR,N0]
  rfl
theorem xq: ∀(es:List (Int × Int × Int × Int))(acc:List PV)(e2 e4 e6 e7:Option PV){e3 e5:Option PV},(∀ e∈es,∀ o∈four e,j2 o)->acc.length+es.length<=1000-> ∃ e2' e4' e6' e7':Option PV,
  bc ⟨NI,xs0⟩ (aX (gT 2 (bW (gN 6) (bW (gN 7) f9))) Kw c) (es.map d0) [NG v0,NG (.ref h.length),e2,e3,e4,e5,e6,e7] (h++[.lst acc])= .ok (.nx [NG v0,NG (.ref h.length),e2',e3,e4',e5,e6',e7']) (h++[.lst (acc++(es.map λe=>ba "edge" (four e)).map PV.str)]):=by
 intro es
 induction es with
 | nil=>intro acc e2 e4 e6 e7 e3 e5 _ _;exact⟨e2,e4,e6,e7,by rw[OG,OG,OG,Ov];exact di⟩
 | cons e es ih =>
  intro acc e2 e4 e6 e7 e3 e5 b l
  have bg:=b e N1
  rw[NK] at l
  have l5:(NP "edge").length=4:=by decide +kernel
  have e4':[e.1,e.2.1,e.2.2.1,e.2.2.2].map NG=four e:=rfl
  obtain⟨e2',lp⟩:=AM (c:=c) (h:=h++[.lst acc]) (xs0:=[e.1,e.2.1,e.2.2.1,e.2.2.2].map PV.int) (v0:=v0) (r1:=NG (.ref h.length)) (e3:=e3) (e5:=e5) (e6:=NG (.tup [.int e.1,.int e.2.1])) (e7:=NG (.tup [.int e.2.2.1,.int e.2.2.2])) [e.1,e.2.1,e.2.2.1,e.2.2.2] "edge" e2 (λi mi=>bg _ (by rw[<- e4'];exact List.mem_map_of_mem mi)) (by simp only[NK,N4];omega)
  rw[e4',<- jR] at lp
  unfold KS at lp
  simp only[NR,OG] at lp
  have ad: ∀(a b c d:PV) g,az (.tup [a,b]) (.tup [c,d]) g= .ok (.tup [a,b,c,d]) g:=λa b c d g=>m8 (xs:=[a,b]) (ys:=[c,d]) (by simp)
  obtain⟨f2,f4,f6,f7,k⟩:=ih (acc++[.str (ba "edge" (four e))]) e2' (NG (.str (ba "edge" (four e)))) (NG (.tup [.int e.1,.int e.2.1])) (NG (.tup [.int e.2.2.1,.int e.2.2.2])) (e3:=e3) (e5:=e5) (λq m=>b q (NW _ m)) (by rw[NX];simp only[NK,N4];omega)
  refine⟨f2,f4,f6,f7,?_⟩
  have il: ∀(xs:List PV) X,bf (.ref h.length) (h++ .lst xs::X)=true:=λxs X=>dH aF
  have s1:aX (gT 2 (bW (gN 6) (bW (gN 7) f9))) Kw c (d0 e) [NG v0,NG (.ref h.length),e2,e3,e4,e5,e6,e7] (h++[.lst acc])= .ok (.nx [NG v0,NG (.ref h.length),e2',e3,NG (.str (ba "edge" (four e))),e5,NG (.tup [.int e.1,.int e.2.1]),NG (.tup [.int e.2.2.1,.int e.2.2.2])]) (h++[.lst (acc++[.str (ba "edge" (four e))])]):=by
   simp? [Kw,d0,ad,lp,fU,pz,il]
  rw[NR,cw,s1,bR,b6,k,NR,NR,N0]
  rfl
end
section
variable{pg:Tb}{aNoLines:Nat}(T:dh aNoLines pg)
include T
theorem gP(j:Nat){h:PH}{r:Rc}(ok:r.Ok):run pg (j+1) "_law_lines" [r.v] h= .ok (.ref h.length) (h++[.lst (r.ls.map PV.str)]):=by
 rw[run_eq T.m4 rfl (by rw[T.gL];rfl)];have l5:(NP "upto").length=4:=by decide +kernel
 have ul:=ok.u.1;have gl:=ok.g.1;have el:=ok.e.1;obtain⟨a2,h1⟩:=FO (c:=run pg j) (h:=h) (xs0:=r.up.map PV.int) (v0:=r.v) r.up "upto" NI ok.u.2 (by omega);rw[<- jR] at h1;obtain⟨b3,b4,b5,h2⟩:=FR (c:=run pg j) (h:=h) (xs0:=r.gs.map λg=> .tup (g.map bJ)) (v0:=r.v) r.gs [.str (ba "upto" (r.up.map NG))] NI NI NI (e2:=a2) ok.g.2 (by simp only[NK,N4];omega);obtain⟨c2,c4,c6,c7,h3⟩:=xq (c:=run pg j) (h:=h) (xs0:=r.es.map d0) (v0:=r.v) r.es (.str (ba "upto" (r.up.map NG))::(r.gs.map (ba "gifts")).map PV.str) a2 b4 NI NI (e3:=b3) (e5:=b5) ok.e.2 (by simp only[NK,NU];omega);have e0:r.ls.map PV.str= .str (ba "upto" (r.up.map NG))::((r.gs.map (ba "gifts")).map PV.str++(r.es.map λe=>ba "edge" (four e)).map PV.str):=by
  unfold Rc.ls;rw[NR,QC]
 rw[e0];unfold K7 at h1;unfold KH at h2;unfold Kw at h3;rw[Qn,Oo] at h2;have v0:r.v= .tup [.tup (r.up.map PV.int),.tup (r.gs.map λg=> .tup (g.map bJ)),.tup (r.es.map d0)]:=rfl;rw[v0] at h1 h2 h3 ⊢;simp? [dc,ip,fC,p9,qu,h1,h2,h3];exact bC rfl
end
noncomputable def Md(x:Str):Bool:=x.cps.toList.all λc=>decide (c < 16 ^ 8)
mutual
def uL:PV->Bool
 | .non=>true
 | .int i=>decide (0<=i/\i<=big)
 | .str x=>Md x
 | .tup xs=>gI xs
 | _=>false
def gI:List PV->Bool
 | []=>true
 | x::r=>uL x&&gI r
end
mutual
def Cz:PV->Nat
 | .str x=>x.cps.size
 | .tup xs=>uR xs
 | _=>0
def uR:List PV->Nat
 | []=>0
 | x::r=>Cz x+1+uR r
end
mutual
def IB:PV->Nat
 | .tup xs=>kQ xs+1
 | _=>0
def kQ:List PV->Nat
 | []=>0
 | x::r=>max (IB x) (kQ r)
end
theorem ou{i:Int}(h0:0<=i)(h9:i<=big):(PyData.int i).shown.length<=42:=N5 (lF h0 h9).1 (by decide)
theorem sW{i:Int}(h0:0<=i)(h9:i<=big):i.natAbs.log2 < 1920:=rX h0 h9
mutual
theorem uL.d: ∀(v:PV),uL v=true-> ∃ d:QK,(∀ sub,gG sub v=NG d)/\d.showable=true/\d.hasDict=false/\d.depth=IB v/\d.bulk=Cz v/\P8 42 d=true
 | .non,_=>⟨.none,λ_=>rfl,rfl,rfl,rfl,rfl,rfl⟩
 | .int i,h=>by
  rw[uL,decide_eq_true_eq] at h;exact⟨.int i,λ_=>rfl,by rw[Sb,decide_eq_true_eq];exact sW h.1 h.2,rfl,rfl,rfl,by rw[P8,decide_eq_true_eq];exact ou h.1 h.2⟩
 | .str x,h=>by
  rw[uL,Md] at h;exact⟨.str x,λ_=>rfl,rfl,rfl,rfl,rfl,by rw[P8];exact h⟩
 | .tup xs,h=>by
  rw[uL] at h;obtain⟨ds,e,h1,h2,h3,h4,h5⟩:=gI.d xs h;exact⟨.tuple ds,λsub=>by rw[gG,e];rfl,by rw[Sb];exact h1,by rw[Ug];exact h2,by rw[Vc,h3,IB],by rw[VB,h4,Cz],by rw[P8];exact h5⟩
theorem gI.d: ∀(xs:List PV),gI xs=true-> ∃ ds:List QK,(∀ sub,bU sub xs=NG ds)/\SD ds=true/\SU ds=false/\Pu ds=kQ xs/\Uh ds=uR xs/\RS 42 ds=true
 | [],_=>⟨[],λ_=>rfl,rfl,rfl,rfl,rfl,rfl⟩
 | x::r,h=>by
  rw[gI,N7] at h;obtain⟨d,e,h1,h2,h3,h4,h5⟩:=uL.d x h.1;obtain⟨ds,e',i1,i2,i3,i4,i5⟩:=gI.d r h.2;exact⟨d::ds,λsub=>by rw[bU,e,e'],by rw[SD,h1,i1];rfl,by rw[SU,h2,i2];rfl,by rw[Pu,h3,i3,kQ],by rw[Uh,h4,i4,uR],by rw[RS,h5,i5];rfl⟩
end
theorem lQ{d:QK}(hl:d.leavesShort 42=true)(hw:d.bulk<=300001):d.shown.length<=NZ:=by
 have h:=PyData.shown_le_bulk 42 (by decide) d hl;show d.shown.length<=16777216;omega
theorem rU{ys : List PV}{ds : List QK}(h1 : SD ds = true)(h2 : SU ds = false)(h3 : Pu ds <= 60)(h4 : Uh ds <= 300000)(h5 : RS 42 ds = true) : sS (.tuple ds) /\ sS (.list ds) :=
  ⟨⟨by rw [Sb]; exact h1, by rw [Ug]; exact h2, by rw [Vc]; omega, lQ (by rw [P8]; exact h5) (by rw [VB]; omega)⟩,
   ⟨by rw [Sb]; exact h1, by rw [Ug]; exact h2, by rw [Vc]; omega, lQ (by rw [P8]; exact h5) (by rw [VB]; omega)⟩⟩
theorem r9{ys:List PV}(h:gI ys=true)(hd:kQ ys<=60)(hb:uR ys<=300000): ∃ x:Str,∀ g,aO [.tup ys] g= .ok (.str x) g:=by
 obtain ⟨ds,e,h1,h2,h3,h4,h5⟩:=gI.d ys h;refine ⟨(PyData.tuple ds).shown,λg=>?_⟩;have e2:dat 6 g (.tup ys)=NG (.tuple ds):=by unfold dat;rw[gG,e];rfl
 unfold aO;simp only[e2];exact if_pos (rU (ys:=ys) h1 h2 (by omega) (by omega) h5).1
theorem F0{ys:List PV}(h:gI ys=true)(hd:kQ ys<=60)(hb:uR ys<=300000): ∃ x:Str,∀(g:PH)(n:Nat),g[n]?=NG (.lst ys)->aO [.ref n] g= .ok (.str x) g:=by
 obtain⟨ds,e,h1,h2,h3,h4,h5⟩:=gI.d ys h;refine⟨(Qs ds).shown,λg n en=>?_⟩;have e2:dat 6 g (.ref n)=NG (.list ds):=by unfold dat;simp only[gG,en,e,QB]
 unfold aO;simp only[e2];exact if_pos (rU (ys:=ys) h1 h2 (by omega) (by omega) h5).2
theorem sf: ∀{ss:List Str}{n:Nat},(∀ x∈ss,Tx n x)->gI (ss.map PV.str)=true/\kQ (ss.map PV.str)=0/\uR (ss.map PV.str)<=ss.length*(n+1)
 | [],_,_=>⟨rfl,rfl,OU _⟩
 | x::ss,n,h=>by
  obtain⟨a,b,c⟩:=sf (ss:=ss) λy m=>h y (NW _ m);have tx:=h x N1;rw[NR];refine⟨?_,?_,?_⟩
  . rw[gI,a,uL,Md,Wt,Ow];intro c mc;have:=tx.1 c mc;rw[decide_eq_true_eq];have:(16:Nat) ^ 8=4294967296:=by decide
    omega
  . rw[kQ,b];rfl
  . have:x.cps.size<=n:=tx.2;rw[uR,show Cz (.str x)=x.cps.size from rfl,NK,Ud];omega
theorem qq{ss:List Str}(l:ss.length<=100)(h: ∀ x∈ss,Tx 2000 x): ∃ x:Str,∀(g:PH)(n:Nat),g[n]?=NG (.lst (ss.map PV.str))->aO [.ref n] g= .ok (.str x) g:=by
 obtain⟨a,b,c⟩:=sf h;refine F0 a (by omega) (N5 c ?_);have:ss.length*(2000+1)<=100*2001:=QY _ l;omega
def Sm(v:PV)(k d:Nat):Prop:=uL v=true/\Cz v<=k/\IB v<=d
theorem m7: ∀{xs:List PV}{k d:Nat},(∀ x∈xs,Sm x k d)->gI xs=true/\uR xs<=xs.length*(k+1)/\kQ xs<=d
 | [],_,_,_=>⟨rfl,OU _,OU _⟩
 | x::xs,k,d,h=>by
  obtain⟨a,b,c⟩:=m7 (xs:=xs) λy m=>h y (NW _ m);obtain⟨p,q,r⟩:=h x N1;exact⟨by rw[gI,p,a];rfl,by rw[uR,NK,Ud];omega,by rw[kQ];exact Nat.max_le.mpr ⟨r,c⟩⟩
theorem Sm.tup{xs:List PV}{k d n:Nat}(h: ∀ x∈xs,Sm x k d)(l:xs.length<=n):Sm (.tup xs) (n*(k+1)) (d+1):=by
 obtain⟨a,b,c⟩:=m7 h;exact⟨by rw[uL];exact a,by rw[Cz];exact N5 b (QY _ l),by rw[IB];omega⟩
theorem Sm.mono{v:PV}{k d k' d':Nat}(h:Sm v k d)(a:k<=k')(b:d<=d'):Sm v k' d':=⟨h.1,N5 h.2.1 a,N5 h.2.2 b⟩
theorem qL{w:Str}{m:Nat}(t:Tx m w)(f:bA w=true):Sm (c5 w) 0 0:=by
 unfold bA at f;simp only[N7,QM,decide_eq_false_iff_not,decide_eq_true_eq] at f;have:=wu t.1 f.2.2.1 f.2.1;exact⟨by rw[c5,uL,decide_eq_true_eq];exact this,NS _,NS _⟩
theorem A7{w:Str}{m:Nat}(t:Tx m w)(f:cz w=true):Sm (cq w) 0 0:=by
 unfold cq;split
 . exact⟨rfl,NS _,NS _⟩
 . rename_i z;refine qL t ?_;unfold cz at f;simpa [z] using f
theorem vy{ls us:List Str}{m:Nat}(t:uM m ls)(l:m<=2000)(ll:ls.length<=100)(hu:up ls=NG us):Sm (mH ls us) 240000 4:=by
 obtain⟨_,u4,_⟩:=sI hu;have u1: ∀ v∈us.map c5,Sm v 0 0:=λv mv=>by
  obtain⟨w,mw,rfl⟩:=Pb.mp mv;unfold up at hu;obtain⟨ws,h1,h2⟩:=PQ.mp hu;split at h2
  . rename_i a;cases h2;exact qL ((lP t h1).2 w mw) (Ow.mp a.1 w mw)
  . nomatch h2
 have s1:=Sm.tup u1 (n:=4) (by rw[NU];exact u4);have g1: ∀ v∈(Oa us.length).filterMap (fY ls),Sm v (2001*1) 1:=λv mv=>by
  obtain⟨i,_,e⟩:=Rq.mp mv;unfold fY at e;obtain⟨ws,e2,rfl⟩:=PY.mp e;have e3:=e2;unfold gf at e3;obtain⟨ws',h1,h2⟩:=PQ.mp e3;split at h2
  . rename_i a;cases h2;obtain⟨w1,w2⟩:=lP t h1;exact Sm.tup (k:=0) (d:=0) (n:=2001) (λv mv=>by
     obtain⟨w,mw,rfl⟩:=Pb.mp mv;exact A7 (w2 w mw) (Ow.mp a w mw)) (by rw[NU];omega)
  . nomatch h2
 have s2:=Sm.tup g1 (n:=4) (N5 (Qj _ _) (by rw[PN];exact u4));have h1: ∀ v∈(Oa (ls.length - (1+us.length))).filterMap (jk ls us.length),Sm v 10 2:=λv mv=>by
  obtain⟨i,_,e⟩:=Rq.mp mv;unfold jk at e;obtain⟨ws,e2,rfl⟩:=PY.mp e;have e3:=e2;unfold ed at e3;obtain⟨ws',h1,h2⟩:=PQ.mp e3;split at h2
  . rename_i a;cases h2;obtain⟨w1,w2⟩:=lP t h1;have nm: ∀ v∈ws.map c5,Sm v 0 0:=λv mv=>by
     obtain⟨w,mw,rfl⟩:=Pb.mp mv;exact qL (w2 w mw) (Ow.mp a.1 w mw)
    have l4:(ws.map c5).length=4:=by rw[NU];exact a.2
    have p1:=Sm.tup (xs:=(ws.map c5).take 2) (n:=2) (λv mv=>nm v (QZ mv)) (by rw[OJ];omega);have p2:=Sm.tup (xs:=(ws.map c5).drop 2) (n:=2) (λv mv=>nm v (Q0 mv)) (by rw[O9];omega);exact(Sm.tup (xs:=[_,_]) (k:=2) (d:=1) (n:=2) (N8.mpr ⟨p1,N8.mpr ⟨p2,λ_ m=>nomatch m⟩⟩) (NS 2)).mono (by decide) (by decide)
  . nomatch h2
 have s3:=Sm.tup h1 (n:=100) (N5 (Qj _ _) (by rw[PN];omega));exact(Sm.tup (xs:=[_,_,_]) (k:=8008) (d:=3) (n:=3) (N8.mpr ⟨s1.mono (by decide) (by decide),N8.mpr ⟨s2.mono (by decide) (by decide),N8.mpr ⟨s3.mono (by decide) (by decide),λ_ m=>nomatch m⟩⟩⟩) (NS 3)).mono (by decide) (by decide)
theorem se{ls:List Str}{m:Nat}(t:uM m ls)(l:m<=2000)(ll:ls.length<=100): ∃ x:Str,∀ g,aO [rS ls] g= .ok (.str x) g:=by
 have st: ∀ s:Str,(s= "row" \/s= "record")->Sm (.str s) 20 0:=λs hs=>by
  rcases hs with rfl | rfl
  . exact⟨by decide +kernel,by decide +kernel,by decide +kernel⟩
  . exact⟨by decide +kernel,by decide +kernel,by decide +kernel⟩
 have row: ∀ r:Nat,r<=1000-> ∃ x:Str,∀ g,aO [.tup [.str "row",.int r]] g= .ok (.str x) g:=λr hr=>by
  have sr:Sm (.int r) 20 0:=⟨by rw[uL,decide_eq_true_eq];unfold big;omega,OU _,NS _⟩
  obtain⟨a,b,c⟩:=m7 (xs:=[.str "row",.int r]) (k:=20) (d:=0) (N8.mpr ⟨st _ (.inl rfl),N8.mpr ⟨sr,λ_ m=>nomatch m⟩⟩);exact r9 a (by omega) (N5 b (show 2*(20+1)<=300000 by decide))
 unfold rS rr;cases hu:up ls with
 | none=>exact row 0 (by decide)
 | some us =>
  obtain⟨_,u4,_⟩:=sI hu
  dsimp only
  cases q:(Oa us.length).find? (λi=>(fY ls i).isNone) with
  | some i =>
   have:=PK.mp (Pc q)
   exact row (1+i) (by omega)
  | none =>
   dsimp only
   cases q2:(Oa (ls.length - (1+us.length))).find? (λi=>(jk ls us.length i).isNone) with
   | some i =>
    have:=PK.mp (Pc q2)
    exact row (1+us.length+i) (by omega)
   | none =>
    obtain⟨a,b,c⟩:=m7 (xs:=[.str "record",mH ls us]) (k:=240000) (d:=4) (N8.mpr ⟨(st _ (.inr rfl)).mono (by decide) (by decide),N8.mpr ⟨vy t l ll hu,λ_ m=>nomatch m⟩⟩)
    have b2:uR [.str "record",mH ls us]<=300000:=by
     have k:=(vy t l ll hu).2.1;have k2:=(st _ (.inr rfl)).2.1;show Cz _+1+(Cz (mH ls us)+1+0)<=300000;omega
    exact r9 a (by omega) b2
def Ku:MS:=(aj (ar (d5 1 (bG (ag (ai "_law_take" (a2 (aa 0) (eI 4))) aA)) (gN 9) aU (ai "_law_number" (a1 (aa 0)))) (gN 4)) (aj (ar (d5 1 (gE (aa 4)) (gN 9) aU (qY (aV (aD fZ (ai "_law_take" (a2 (aa 0) (eI 5))) (eI 0))) (eC .non) (aa 9))) (gN 4)) (cK (eM bt bf (aa 2) (ag (eB aH (a1 (aa 4))) aA)))))
def KP:MS:=(aj (ar (d5 1 (bG (a1 (eI 4))) (gN 9) aU (ai "_law_number" (a1 (aa 0)))) (gN 7)) (cK (eM bt bf (aa 5) (ag (cC (ag (cC (a2 (eX 7 0) (eX 7 1))) (ag (cC (a2 (eX 7 2) (eX 7 3))) aA))) aA))))
abbrev Bs:=List Int × (PO × PO × PO × PO) × List Int
def hq(B:Bs)(t:Fd)(J:PH):PH:=hp B.1 B.2.1.1 B.2.1.2.1 B.2.1.2.2.1 B.2.1.2.2.2 B.2.2 t J
section
variable{B:Bs}{t t':Fd}{J X:PH}{k:Nat}{o:PO}{v:PV}
theorem pV:hq B t J++X=hq B t (J++X):=rfl
theorem nN:(hq B t J).length=J.length+7:=rfl
theorem gy:(hq B t J)[k+7]?=J[k]?:=rfl
theorem KZ:(hq B t J).set (k+7) o=hq B t (J.set k o):=rfl
theorem mW(hv:v.flat=true):P3.settle (hq B t J) v (hq B t' (J++X))= .ok v (hq B t' J):=AH hv
theorem xu:P3.settle (hq B t J) v (hq B t' J)= .ok v (hq B t' J):=oh
end
theorem qw{α :Type}{f: α ->PV}{P: α ->Prop}: ∀{vs:List PV},(∀ v∈vs,∃ a,v=f a/\P a)-> ∃ as:List α,vs=as.map f/\ ∀ a∈as,P a
 | [],_=>⟨[],rfl,λ_ m=>nomatch m⟩
 | v::vs,h=>by
  obtain⟨a,rfl,p⟩:=h v N1;obtain⟨as,rfl,q⟩:=qw (vs:=vs) λw m=>h w (NW _ m);exact⟨a::as,rfl,N8.mpr ⟨p,q⟩⟩
theorem LG{B:Bs}{J:PH}{it:kD}(fi: ∀ t,it.gK (hq B t J)=true){Q:PV->Prop}{st:PV->PH->RV (Option PV)}: ∀(xs ys:List PV)(t:Fd),(∀ x∈xs,∀ t,∃ v t',Q v/\st x (hq B t J)= .ok (NG v) (hq B t' J))->xs.length+ys.length<=16777216-> ∃ vs t',vs.length=xs.length/\(∀ v∈vs,Q v)/\P3.eO it st xs ys (hq B t J)= .ok (ys++vs) (hq B t' J)
 | [],ys,t,_,_=>⟨[],t,rfl,λ_ m=>(nomatch m),by rw[P3.eO,if_pos (fi t),Ov]⟩
 | x::xs,ys,t,hs,hl=>by
  have hl':ys.length < NZ:=by rw[NK] at hl;show ys.length < 16777216;omega
  obtain⟨v,t1,q,e⟩:=hs x N1 t;obtain⟨vs,t2,l2,q2,e2⟩:=LG fi xs (ys++[v]) t1 (λy m=>hs y (NW _ m)) (by rw[NK] at hl;simp;omega);refine⟨v::vs,t2,by rw[NK,NK,l2],N8.mpr ⟨q,q2⟩,?_⟩;rw[P3.eO,if_pos ⟨fi t,hl'⟩,e,d6];exact e2.trans (by rw[N0];rfl)
def LZ(v:PV):Prop:= ∃ i:Int,v= .int i/\j2 (NG i)
section
variable{pg:Tb}{aNoLines:Nat}(T:dh aNoLines pg)
include T
theorem gu(j:Nat){B:Bs}(hc:B.2.2≠[])(t:Fd)(m:Int)(m0:0 < m)(m9:m<=1000000): ∃(v:Int)(t':Fd),0<=v/\v < m/\ ∀ J,run pg (j+1) "_law_take" [.ref 6,.int m] (hq B t J)= .ok (.int v) (hq B t' J):=Hq T j hc t m m0 m9
theorem tS(j:Nat){B:Bs}(hc:B.2.2≠[])(t:Fd): ∃(v:Int)(t':Fd),j2 (NG v)/\ ∀ J,run pg (j+2) "_law_number" [.ref 6] (hq B t J)= .ok (.int v) (hq B t' J):=by
 obtain⟨w,t1,w0,w9,e1⟩:=gu T j hc t 12 (by decide) (by decide);have t40:(10:Int) ^ Tc 40=10000000000000000000000000000000000000000:=by decide +kernel
 have t40b:(10:Int) ^ 40=10000000000000000000000000000000000000000:=by decide +kernel
 by_cases z:w=0
 . obtain⟨x,t2,x0,x9,e2⟩:=gu T j hc t1 1000 (by decide) (by decide);refine⟨10000000000000000000000000000000000000000 - 1 - x,t2,λi e=>by cases e;unfold big;omega,λJ=>?_⟩;rw[run_eq T.gp rfl (by rw[T.gL];rfl)];subst z;simp? [cm,dR,e1,e2,t40,t40b];exact xu
 . obtain⟨i,mi,ei⟩:=qP (xs:=[0,1,2,9,10,60,101]) (v:=w % 7) (Rn _ (by decide)) (Qx _ (by decide));have ib:0<=i/\i<=101:=by
    simp only[Ot,Vw,or_false] at mi;omega
   refine⟨i,t1,λk e=>by cases e;unfold big;omega,λJ=>?_⟩;rw[run_eq T.gp rfl (by rw[T.gL];rfl)];simp only[NR,OG] at ei;simp? [cm,dR,e1,z,pV,nN,gy,ei];exact mW rfl
theorem l8(j:Nat){B:Bs}(hc:B.2.2≠[]){J:PH}{E:aG}(hE:E.length=9)(h0:E[0]?=NG (NG (.ref 6)))(n:Nat)(n9:n<=1000)(t:Fd)(xs0:List PV): ∃(is:List Int)(t':Fd),is.length=n/\(∀ i∈is,j2 (NG i)) /\
  P3.eO ⟨NI,xs0⟩ (bp 1 (gN 9) aU (ai "_law_number" (a1 (aa 0))) (run pg (j+2)) E) (aw 0 n) [] (hq B t J)= .ok (is.map PV.int) (hq B t' J):=by
 obtain⟨vs,t',l,q,e⟩:=LG (B:=B) (J:=J) (it:=⟨NI,xs0⟩) (λ_=>rfl) (Q:=LZ) (st:=bp 1 (gN 9) aU (ai "_law_number" (a1 (aa 0))) (run pg (j+2)) E) (aw 0 n) [] t (λx _ t=>by
  obtain⟨v,t1,b,e1⟩:=tS T j hc t;refine⟨.int v,t1,⟨v,rfl,b⟩,?_⟩;have gn: ∀ g,gN 9 x (E++[NI]) g= .ok (E++[NG x]) g:=λg=>by rw[pB];simp[<- hE]
  have vi:(E++[NG x])[0]?=NG (NG (.ref 6)):=by rw[N3 (by omega)];exact h0
  simp? [gn,vi,e1]) (by simp[P3.aw];omega)
 obtain⟨is,rfl,b⟩:=qw (f:=PV.int) (P:=λi=>j2 (NG i)) q;exact⟨is,t',by rw[NU] at l;rw[l];simp[P3.aw],b,e⟩
end
def LC(v:PV):Prop:= ∃ o:Option Int,v=bJ o/\j2 o
section
variable{pg:Tb}{aNoLines:Nat}(T:dh aNoLines pg)
include T
theorem Eb(j:Nat){B:Bs}(hc:B.2.2≠[]){J:PH}{gi:Nat}{acc:List PV}(e:J[gi]?=NG (.lst acc))(la:acc.length<=1000)(t:Fd)(x:PV)(e1 e3 e4:Option PV): ∃(os:List (Option Int))(t':Fd)(X:PH)(e4':Option PV),os.length<=4/\(∀ o∈os,j2 o) /\
  aX (gN 3) Ku (run pg (j+2)) x [NG (.ref 6),e1,NG (.ref (gi+7)),e3,e4,NI,NI,NI,NI] (hq B t J)= .ok (.nx [NG (.ref 6),e1,NG (.ref (gi+7)),NG x,e4',NI,NI,NI,NI]) (hq B t' ((J++X).set gi (.lst (acc++[.tup (os.map bJ)])))):=by
 obtain⟨v,t1,v0,v9,h1⟩:=gu T (j+1) hc t 4 (by decide) (by decide);obtain⟨is,t2,il,ib,h2⟩:=l8 T j hc (J:=J) (E:=[NG (.ref 6),e1,NG (.ref (gi+7)),NG x,e4,NI,NI,NI,NI]) rfl rfl v.toNat (by omega) t1 (aw 0 v.toNat);have fi: ∀ t,kD.gK ⟨NG (J.length+7),is.map PV.int⟩ (hq B t (J++[.lst (is.map PV.int)]))=true:=λt=>eu (by rw[gy];exact aF);obtain⟨vs,t3,vl,vb,h3⟩:=LG (B:=B) (J:=J++[.lst (is.map PV.int)]) (it:=⟨NG (J.length+7),is.map PV.int⟩) fi (Q:=LC) (st:=bp 1 (gN 9) aU (qY (aV (aD fZ (ai "_law_take" (a2 (aa 0) (eI 5))) (eI 0))) (eC .non) (aa 9)) (run pg (j+2)) [NG (.ref 6),e1,NG (.ref (gi+7)),NG x,NG (.ref (J.length+7)),NI,NI,NI,NI]) (is.map PV.int) [] t2 (λy my t=>by
  obtain⟨i,mi,rfl⟩:=Pb.mp my;obtain⟨w,t4,w0,w9,h4⟩:=gu T (j+1) hc t 5 (by decide) (by decide);by_cases z:w=0
  . subst z;refine⟨.non,t4,⟨NI,rfl,λ_ e=>nomatch e⟩,?_⟩;simp? [h4]
  . refine⟨.int i,t4,⟨NG i,rfl,ib i mi⟩,?_⟩;simp? [h4,z]) (by rw[NU];simp only[N4];omega)
 obtain⟨os,rfl,ob⟩:=qw (f:=bJ) (P:=j2) vb;rw[Oo] at h3;rw[NU,NU] at vl;have ga: ∀ X,(J++X)[gi]?=NG (.lst acc):=λX=>by rw[N3 ((NN.mp e).1)];exact e
 have il2: ∀ t X,bf (.ref (gi+7)) (hq B t (J++X))=true:=λt X=>dH (xs:=acc) (by rw[gy];exact ga X);have tp:aH [.ref (J.length+(0+1)+7)] (hq B t3 (J++[.lst (is.map PV.int),.lst (os.map bJ)]))= .ok (.tup (os.map bJ)) _:=cQ (by rw[gy,aN];rfl);refine⟨os,t3,[.lst (is.map PV.int),.lst (os.map bJ)],NG (.ref (J.length+(0+1)+7)),by omega,ob,?_⟩;simp? [Ku,h1,h2,h3,pV,nN,gy,KZ,ga,tp,fU,pz,il2]
theorem AW(j:Nat){B:Bs}(hc:B.2.2≠[]){J:PH}{gi:Nat}{acc:List PV}(e:J[gi]?=NG (.lst acc))(la:acc.length<=1000)(t:Fd)(x:PV)(e1 e2 e3 e4 e6 e7:Option PV): ∃(q:Int × Int × Int × Int)(t':Fd)(X:PH)(e7':Option PV),(∀ o∈four q,j2 o) /\
  aX (gN 6) KP (run pg (j+2)) x [NG (.ref 6),e1,e2,e3,e4,NG (.ref (gi+7)),e6,e7,NI] (hq B t J)= .ok (.nx [NG (.ref 6),e1,e2,e3,e4,NG (.ref (gi+7)),NG x,e7',NI]) (hq B t' ((J++X).set gi (.lst (acc++[d0 q])))):=by
 obtain⟨is,t2,il,ib,h2⟩:=l8 T j hc (J:=J) (E:=[NG (.ref 6),e1,e2,e3,e4,NG (.ref (gi+7)),NG x,e7,NI]) rfl rfl 4 (by omega) t (aw 0 4);obtain⟨a,b,c,d,rfl⟩: ∃ a b c d,is=[a,b,c,d]:=by
  rcases is with _ | ⟨a,_ | ⟨c,_ | ⟨d,_ | ⟨f,_ | ⟨_,_⟩⟩⟩⟩⟩<;>first | exact⟨_,_,_,_,rfl⟩ | cases il
 have ga: ∀ X,(J++X)[gi]?=NG (.lst acc):=λX=>by rw[N3 ((NN.mp e).1)];exact e
 have il2: ∀ t X,bf (.ref (gi+7)) (hq B t (J++X))=true:=λt X=>dH (xs:=acc) (by rw[gy];exact ga X);have t4:Tc 4=4:=rfl;simp only[NR,OG] at h2;refine⟨(a,b,c,d),t2,[.lst [.int a,.int b,.int c,.int d]],NG (.ref (J.length+7)),λo mo=>?_,?_⟩
 . obtain⟨i,mi,rfl⟩:=Pb.mp (show o∈[a,b,c,d].map NG from mo);exact ib i mi
 . simp? [KP,d0,h2,t4,pV,nN,gy,KZ,ga,fC,p9,qu,vn,fU,pz,il2]
theorem tY(j:Nat){B:Bs}(hc:B.2.2≠[]){J:PH}{e1:Option PV}{xs0:List PV}: ∀(xs:List PV)(acc:List PV)(t:Fd)(G:PH)(e3 e4:Option PV),acc.length+xs.length<=1000-> ∃(gs:List (List (Option Int)))(t':Fd)(G':PH)(e3' e4':Option PV),gs.length=xs.length/\(∀ g∈gs,g.length<=4/\ ∀ o∈g,j2 o) /\
  bc ⟨NI,xs0⟩ (aX (gN 3) Ku (run pg (j+2))) xs [NG (.ref 6),e1,NG (.ref (J.length+7)),e3,e4,NI,NI,NI,NI] (hq B t (J++ .lst acc::G))= .ok (.nx [NG (.ref 6),e1,NG (.ref (J.length+7)),e3',e4',NI,NI,NI,NI]) (hq B t' (J++ .lst (acc++gs.map λg=> .tup (g.map bJ))::G')):=by
 intro xs
 induction xs with
 | nil=>intro acc t G e3 e4 _;exact⟨[],t,G,e3,e4,rfl,λ_ m=>(nomatch m),by rw[OG,Ov];exact di⟩
 | cons x xs ih =>
  intro acc t G e3 e4 l
  rw[NK] at l
  obtain⟨os,t1,X,f4,o4,ob,st⟩:=Eb T j hc (J:=J++ .lst acc::G) (gi:=J.length) aF (by omega) t x e1 e3 e4
  have es:((J++ .lst acc::G)++X).set J.length (.lst (acc++[.tup (os.map bJ)]))=J++ .lst (acc++[.tup (os.map bJ)])::(G++X):=by
   rw[N0,Px _ _ (NS _),RO];rfl
  rw[es] at st
  obtain⟨gs,t2,G2,f3,f5,gl,gb,k⟩:=ih (acc++[.tup (os.map bJ)]) t1 (G++X) (NG x) f4 (by rw[NX];simp only[NK,N4];omega)
  refine⟨os::gs,t2,G2,f3,f5,by rw[NK,NK,gl],N8.mpr ⟨⟨o4,ob⟩,gb⟩,?_⟩
  rw[cw,st,bR,b6,k,NR,N0]
  rfl
theorem pX(j:Nat){B:Bs}(hc:B.2.2≠[]){J:PH}{e1 e2 e3 e4:Option PV}{xs0:List PV}: ∀(xs:List PV)(acc:List PV)(t:Fd)(G:PH)(e6 e7:Option PV),acc.length+xs.length<=1000-> ∃(qs:List (Int × Int × Int × Int))(t':Fd)(G':PH)(e6' e7':Option PV),qs.length=xs.length/\(∀ q∈qs,∀ o∈four q,j2 o) /\
  bc ⟨NI,xs0⟩ (aX (gN 6) KP (run pg (j+2))) xs [NG (.ref 6),e1,e2,e3,e4,NG (.ref (J.length+7)),e6,e7,NI] (hq B t (J++ .lst acc::G))= .ok (.nx [NG (.ref 6),e1,e2,e3,e4,NG (.ref (J.length+7)),e6',e7',NI]) (hq B t' (J++ .lst (acc++qs.map d0)::G')):=by
 intro xs
 induction xs with
 | nil=>intro acc t G e6 e7 _;exact⟨[],t,G,e6,e7,rfl,λ_ m=>(nomatch m),by rw[OG,Ov];exact di⟩
 | cons x xs ih =>
  intro acc t G e6 e7 l
  rw[NK] at l
  obtain⟨q,t1,X,f7,ob,st⟩:=AW T j hc (J:=J++ .lst acc::G) (gi:=J.length) aF (by omega) t x e1 e2 e3 e4 e6 e7
  have es:((J++ .lst acc::G)++X).set J.length (.lst (acc++[d0 q]))=J++ .lst (acc++[d0 q])::(G++X):=by
   rw[N0,Px _ _ (NS _),RO];rfl
  rw[es] at st
  obtain⟨qs,t2,G2,f6,f5,gl,gb,k⟩:=ih (acc++[d0 q]) t1 (G++X) (NG x) f7 (by rw[NX];simp only[NK,N4];omega)
  refine⟨q::qs,t2,G2,f6,f5,by rw[NK,NK,gl],N8.mpr ⟨ob,gb⟩,?_⟩
  rw[cw,st,bR,b6,k,NR,N0]
  rfl
end
theorem fh{α :Type}{f: α ->PV}(h: ∀ a,(f a).flat=true): ∀ l:List α,PV.bF (l.map f)=true
 | []=>rfl
 | x::l=>by rw[NR,PV.bF,h x,fh h l];rfl
theorem Bm(r:Rc):r.v.flat=true:=by
 have k1:=fh (f:=PV.int) (λ_=>rfl) r.up;have k2:=fh (f:=λg:List (Option Int)=> .tup (g.map bJ)) (λg=>by rw[PV.flat];exact fh (λo=>by cases o<;>rfl) g) r.gs;have k3:=fh (f:=d0) (λe=>rfl) r.es;simp only[Rc.v,PV.flat,PV.bF,k1,k2,k3,Rg]
section
variable{pg:Tb}{aNoLines:Nat}(T:dh aNoLines pg)
include T
theorem tQ(j:Nat){B:Bs}(hc:B.2.2≠[])(t:Fd)(J:PH): ∃(r:Rc)(t':Fd),r.Ok/\run pg (j+3) "_law_record" [.ref 6] (hq B t J)= .ok r.v (hq B t' J):=by
 obtain⟨v,t1,v0,v9,h1⟩:=gu T (j+1) hc t 4 (by decide) (by decide);obtain⟨gs,t2,G1,f3,f4,gl,gb,k1⟩:=tY T j hc (J:=J) (e1:=NG (.int (1+v))) (xs0:=aw 0 (1+v).toNat) (aw 0 (1+v).toNat) [] t1 [] NI NI (by simp[P3.aw];omega);rw[Oo] at k1;obtain⟨J2,e2⟩: ∃ J2,J2=J++ .lst (gs.map λg=> .tup (g.map bJ))::G1:=⟨_,rfl⟩
 rw[<- e2] at k1;obtain⟨w,t3,w0,w9,h3⟩:=gu T (j+1) hc t2 7 (by decide) (by decide);obtain⟨qs,t4,G2,f6,f7,ql,qb,k2⟩:=pX T j hc (J:=J2) (e1:=NG (.int (1+v))) (e2:=NG (.ref (J.length+7))) (e3:=f3) (e4:=f4) (xs0:=aw 0 w.toNat) (aw 0 w.toNat) [] t3 [] NI NI (by simp[P3.aw];omega);rw[Oo] at k2;obtain⟨J3,e3⟩: ∃ J3,J3=J2++ .lst (qs.map d0)::G2:=⟨_,rfl⟩
 rw[<- e3] at k2;obtain⟨us,t5,ul,ub,k3⟩:=l8 T j hc (J:=J3) (E:=[NG (.ref 6),NG (.int (1+v)),NG (.ref (J.length+7)),f3,f4,NG (.ref (J2.length+7)),f6,f7,NI]) rfl rfl (1+v).toNat (by omega) t4 (aw 0 (1+v).toNat);have g1: ∀ X,(J3++X)[J.length]?=NG (.lst (gs.map λg=> .tup (g.map bJ))):=λX=>by
  rw[e3,e2,N0,N0];exact aF
 have g2: ∀ X,(J3++X)[J2.length]?=NG (.lst (qs.map d0)):=λX=>by rw[e3,N0];exact aF
 have p1:aH [.ref (J3.length+7)] (hq B t5 (J3++[.lst (us.map PV.int)]))= .ok (.tup (us.map PV.int)) _:=cQ (by rw[gy];exact aF);have p2: ∀ X,aH [.ref (J.length+7)] (hq B t5 (J3++X))= .ok (.tup (gs.map λg=> .tup (g.map bJ))) (hq B t5 (J3++X)):=λX=>cQ (by rw[gy];exact g1 X);have p3: ∀ X,aH [.ref (J2.length+7)] (hq B t5 (J3++X))= .ok (.tup (qs.map d0)) (hq B t5 (J3++X)):=λX=>cQ (by rw[gy];exact g2 X);obtain⟨Z,eZ⟩: ∃ Z,J3++[.lst (us.map PV.int)]=J++Z:=⟨_,by rw[e3,e2,N0,N0]⟩
 have hl:gs.length<=4:=by rw[gl];simp[P3.aw];omega
 have nN:qs.length<=7:=by rw[ql];simp[P3.aw];omega
 refine⟨⟨us,gs,qs⟩,t5,⟨⟨show us.length<=4 by omega,ub⟩,⟨hl,gb⟩,⟨nN,qb⟩⟩,?_⟩;rw[run_eq T.kJ rfl (by rw[T.gL];rfl)];unfold Ku at k1;unfold KP at k2;simp? [cN,gw,h1,h3,k1,k2,k3,pV,K71.nN,gy,KZ,p1,p2,p3];rw[eZ];exact mW (Bm ⟨us,gs,qs⟩)
end
theorem sN{a:Str}{n:Int}{h:PH}(c:2<=n∧n<=1000∧1<=a.length∧a.length<=1000∧(nu a n.toNat).length<=16777216):i8 (.str a) (.int n) h= .ok (.str (nu a n.toNat)) h:=by
 unfold i8;exact if_pos c
noncomputable def C1:List Str:=["-", "", "0", "00", "01", "+1", "-1", "1.0", "1_0", "7", "9999999999999999999999999999999999999999", "99999999999999999999999999999999999999999", "upto", "gifts", "edge", "x"]
theorem CU: ∀ w∈C1,Tx 41 w:=by decide +kernel
def Tl(n m:Nat)(ls:List Str):Prop:=ls.length<=n∧ ∀ x∈ls,Tx m x
theorem Tl.mono{n m n' m':Nat}{ls:List Str}(h:Tl n m ls)(a:n<=n')(b:m<=m'):Tl n' m' ls:=⟨N5 h.1 a,λx mx=>(h.2 x mx).mono b⟩
theorem Tl.app{n m k:Nat}{a b:List Str}(h1: ∀ x∈a,Tx m x)(h2: ∀ x∈b,Tx m x)(l:a.length+b.length<=k):Tl k m (a++b):=⟨by rw[NX];exact l,λx mx=>by
 rcases ON.mp mx with z | z
 . exact h1 x z
 . exact h2 x z⟩
section
variable{pg:Tb}{aNoLines:Nat}(T:dh aNoLines pg)
include T
theorem rG(j:Nat){B:Bs}(hc:B.2.2≠[])(t:Fd): ∃(w:Str)(t':Fd),Tx 41 w/\ ∀ J,run pg (j+2) "_law_word" [.ref 6] (hq B t J)= .ok (.str w) (hq B t' J):=by
 obtain⟨v,t1,v0,v9,h1⟩:=gu T j hc t 16 (by decide) (by decide);obtain⟨w,mw,ew⟩:=Gh (ss:=C1) (v:=v) v0 v9;refine⟨w,t1,CU w mw,λJ=>?_⟩;rw[run_eq T.pK rfl (by rw[T.gL];rfl)];have r1:nu "9" 40= "9999999999999999999999999999999999999999" :=by decide +kernel
 have r2:nu "9" 41= "99999999999999999999999999999999999999999" :=by decide +kernel
 have m1: ∀ g,i8 (.str "9") (.int 40) g= .ok (.str "9999999999999999999999999999999999999999") g:=λg=>by
  rw[<- r1];exact sN (by decide +kernel)
 have m2: ∀ g,i8 (.str "9") (.int 41) g= .ok (.str "99999999999999999999999999999999999999999") g:=λg=>by
  rw[<- r2];exact sN (by decide +kernel)
 let L1:List PV:=[.str "-",.str "",.str "0",.str "00",.str "01",.str "+1",.str "-1",.str "1.0",.str "1_0",.str "7",.str "9999999999999999999999999999999999999999",.str "99999999999999999999999999999999999999999"]
 let L2:List PV:=[.str "upto",.str "gifts",.str "edge",.str "x"]
 have ad:az (.ref (J.length+7)) (.ref (J.length+(0+1)+7)) (hq B t (J++[.lst L1,.lst L2]))= .ok (.ref (J.length+(0+1+1)+7)) (hq B t (J++[.lst L1,.lst L2,.lst (C1.map PV.str)])):=by
  rw[jz (xs:=L1) (ys:=L2) (by rw[gy];exact aF) (by rw[gy,aN];rfl) (show 12+4<=16777216 by decide),nN,pV,NX,N0];rfl
 have ix:fP (.ref (J.length+(0+1+1)+7)) (.int v) (hq B t1 (J++[.lst L1,.lst L2,.lst (C1.map PV.str)]))= .ok (.str w) (hq B t1 (J++[.lst L1,.lst L2,.lst (C1.map PV.str)])):=by
  rw[mJ,gy,aN];show Lx _ _ (NG (.lst (C1.map PV.str)))=_;rw[nk,ew];rfl
 generalize hW:C1.map PV.str=WL at ad ix;simp? [dz,iY,m1,m2,pV,nN];simp only[L1,L2] at ad ix;simp? [ad,h1,ix];exact mW rfl
end
def Mt:ME:=(aD az (cE (aa 1) aC (au (aa 2))) (cE (aa 1) (au (aD az (aa 2) (eI 1))) aC))
def MQ:ME:=(aD az (aD az (cE (aa 1) aC (au (aa 2))) (cE (aa 1) (au (aa 2)) (au (aD az (aa 2) (eI 1))))) (cE (aa 1) (au (aa 2)) aC))
def M4:ME:=(aD az (cE (aa 1) (au (aa 2)) aC) (cE (aa 1) aC (au (aa 2))))
def Mf:ME:=(aD az (aD az (cE (aa 1) aC (au (aa 2))) (bP (ag (ai "_law_word" (a1 (aa 0))) aA))) (cE (aa 1) (au (aa 2)) aC))
def Mx:ME:=(aD az (aD az (cE (aa 1) aC (au (aa 2))) (bP (ag (eM gj bD (eS " ") (a1 (aa 4))) aA))) (cE (aa 1) (au (aD az (aa 2) (eI 1))) aC))
def Ln:ME:=(aD az (aD az (cE (aa 4) aC (au (aa 5))) (bP (ag (ai "_law_word" (a1 (aa 0))) aA))) (cE (aa 4) (au (aD az (aa 5) (eI 1))) aC))
def Mc:ME:=(aD az (cE (aa 4) aC (au (aa 5))) (cE (aa 4) (au (aD az (aa 5) (eI 1))) aC))
def Lr:ME:=(aD az (aD az (cE (aa 4) aC (au (aa 5))) (bP (ag (ai "_law_word" (a1 (aa 0))) aA))) (cE (aa 4) (au (aa 5)) aC))
def Li:ME:=(aD az (aD az (cE (aa 4) aC (au (aa 5))) (bP (a1 (eS "")))) (cE (aa 4) (au (aa 5)) aC))
theorem fO:i6=(aj (ar (ai "_law_take" (ag (aa 0) (ag (aD az (eB bB (a1 (aa 1))) (eI 1)) aA))) (gN 2)) (aj (ar (ai "_law_take" (a2 (aa 0) (eI 9))) (gN 3)) (aj (cZ (mQ (aa 3) (eI 0)) (aZ Mt) ee) (aj (cZ (mQ (aa 3) (eI 1)) (aZ MQ) ee) (aj (cZ (mQ (aa 3) (eI 2)) (aZ M4) ee) (aj (cZ (mQ (aa 3) (eI 3)) (aZ Mf) ee) (aj (cZ (aV (aD fZ (aa 2) (eB bB (a1 (aa 1))))) (aZ (aa 1)) ee) (aj (ar (eM dP bD (aD fP (aa 1) (aa 2)) (a1 (eS " "))) (gN 4)) (aj (ar (ai "_law_take" (ag (aa 0) (ag (aD az (eB bB (a1 (aa 4))) (eI 1)) aA))) (gN 5)) (aj (cZ (aV (aD EK (aa 3) (eI 6))) (ar Ln (gN 4)) (cZ (mQ (aa 3) (eI 6)) (ar Mc (gN 4)) (cZ (mQ (aa 3) (eI 7)) (ar Lr (gN 4)) (ar Li (gN 4))))) (aZ Mx))))))))))):=rfl
def gc(c:CF)(E:aG)(e:ME)(B:Bs)(t t':Fd)(J:PH)(ys:List Str):Prop:= ∃ X i,e c E (hq B t J)= .ok (.ref (i+7)) (hq B t' (J++X))/\(J++X)[i]?=NG (.lst (ys.map PV.str))
theorem dN{J:PH}{k:Nat}{o:PO}(e:J[k]?=NG o)(X:PH):(J++X)[k]?=NG o:=by rw[N3 ((NN.mp e).1)];exact e
section
variable{c:CF}{E:aG}{a b m:ME}{B:Bs}{t t1 t2:Fd}{J:PH}{ys zs ls:List Str}
theorem gc.add(h1:gc c E a B t t1 J ys)(h2: ∀ X,gc c E b B t1 t2 (J++X) zs)(l:ys.length+zs.length<=10000):gc c E (aD az a b) B t t2 J (ys++zs):=by
 obtain⟨X,i,e1,g1⟩:=h1;obtain⟨Y,k,e2,g2⟩:=h2 X;refine⟨X++(Y++[.lst ((ys++zs).map PV.str)]),(J++X++Y).length,?_,?_⟩
 . rw[Cu,e1,bR,xE,e2,bR,jz (xs:=ys.map PV.str) (ys:=zs.map PV.str) (by rw[gy];exact dN g1 Y) (by rw[gy];exact g2) (by rw[NU,NU];omega),nN,pV,<- QC];simp only[N0]
 . rw[<- N0,<- N0];exact aF
theorem gc.sl{q k:Nat}{lo hi:MO}{l u:Option Int}(hE:E[q]?=NG (NG (.ref (k+7))))(hl: ∀ h,lo c E h= .ok l h)(hu: ∀ h,hi c E h= .ok u h)(e:J[k]?=NG (.lst (ls.map PV.str)))(hc:cS (ls.map PV.str) l u=ys.map PV.str):gc c E (cE (aa q) lo hi) B t t J ys:=by
 refine⟨[.lst (ys.map PV.str)],J.length,?_,aF⟩;rw[Cm,yc,hE,rP,bR,xJ,hl,bR,u9,hu,bR,D2,gy,e,uQ,hc,nN,pV]
theorem gc.one{w:Str}(h:m c E (hq B t J)= .ok (.str w) (hq B t1 J)):gc c E (bP (ag m aA)) B t t1 J [w]:=by
 refine⟨[.lst [.str w]],J.length,?_,aF⟩;rw[xa,oW,h,bR,lX,sH,bR,k9,bR,rQ,et (by simp),nN,pV]
end
noncomputable def wt(ws:List Str):Nat:=(ws.map λw=>w.length+1).sum
theorem vS: ∀{ws:List Str},ws≠[]->(jn ws).length+1=wt ws
 | [],h=>absurd rfl h
 | [w],_=>by rw[iN];rfl
 | p::q::r,_=>by
  have i:=vS (ws:=q::r) (by simp);have l1:(NP " ").length=1:=by decide +kernel
  rw[gM,dy,dy,l1];show _=(p.length+1)+wt (q::r);omega
theorem fF(a b:List Str):wt (a++b)=wt a+wt b:=by unfold wt;rw[QC,List.sum_append]
theorem qU(ws:List Str)(s:Nat):wt (ws.take s)+wt (ws.drop s)=wt ws:=by rw[<- fF,List.take_append_drop]
theorem By(ws:List Str)(s:Nat):wt (ws.take s)+wt (ws.drop (s+1))<=wt ws:=by
 have h1:=qU ws s;have h2:=qU (ws.drop s) 1;rw[List.drop_drop] at h2;omega
theorem IJ(ws:List Str):(jn ws).length<=wt ws:=by
 by_cases z:ws=[]
 . subst z;exact(by decide +kernel:(jn []).length<=0)
 . have:=vS z;omega
theorem GW{ws:List Str}(h: ∀ w∈ws,asc w):asc (jn ws):=by
 have: ∀(ws:List Str),(∀ w∈ws,asc w)-> ∃ n,∀ w∈ws,Tx n w:=λws=>by
  induction ws with
  | nil=>exact λ_=>⟨0,λ_ m=>nomatch m⟩
  | cons w ws ih =>
   intro h
   obtain⟨n,k⟩:=ih λv m=>h v (NW _ m)
   exact⟨n+w.length,N8.mpr ⟨⟨h w N1,by omega⟩,λv m=>(k v m).mono (by omega)⟩⟩
 obtain⟨n,k⟩:=this ws h;exact(Tx.jn k).1
theorem zd{ws:List Str}(h:wt ws<=1000000):WK (NP " ") ws=true:=by
 refine R6 ?_ (by decide +kernel);have:wt ws=(ws.map Tu).sum+ws.length:=by
  clear h
  induction ws with
  | nil=>rfl
  | cons w ws ih =>
   show(w.length+1)+wt ws=(w.length+(ws.map Tu).sum)+(ws.length+1)
   omega
 show(ws.map Tu).sum+ws.length<=1048576;omega
theorem B5{ls:List Str}{v:Int}(h:0<=v):cS (ls.map PV.str) NI (NG v)=(ls.take v.toNat).map PV.str:=by rw[P3.m6 h,UB]
theorem sE{ls:List Str}{v:Int}(h:0<=v):cS (ls.map PV.str) (NG v) NI=(ls.drop v.toNat).map PV.str:=by rw[P3.gS h,Wv]
theorem Ko(ls:List Str)(l u:Option Int): ∃ ys:List Str,cS (ls.map PV.str) l u=ys.map PV.str/\ys.length<=ls.length/\ ∀ y∈ys,y∈ls:=by
 unfold P3.cS;rw[<- Wv,<- UB];exact⟨_,rfl,by rw[OJ,O9];omega,λy m=>Q0 (QZ m)⟩
section
variable{pg:Tb}{aNoLines:Nat}(T:dh aNoLines pg)
include T
theorem wH(j:Nat){B:Bs}(hc:B.2.2≠[])(t:Fd){J:PH}{k:Nat}{ws:List Str}(e:J[k]?=NG (.lst (ws.map PV.str)))(l:ws.length<=4000){s w:Int}(s0:0<=s)(w4:4<=w)(w9:w < 9){e1 e2:Option PV}: ∃(ws':List Str)(t':Fd)(X:PH)(i:Nat),wt ws'<=wt ws+42/\(∀ v∈ws',v∈ws\/Tx 41 v)/\(J++X)[i]?=NG (.lst (ws'.map PV.str)) /\
  (cZ (aV (aD EK (aa 3) (eI 6))) (ar Ln (gN 4)) (cZ (mQ (aa 3) (eI 6)) (ar Mc (gN 4)) (cZ (mQ (aa 3) (eI 7)) (ar Lr (gN 4)) (ar Li (gN 4))))) (run pg (j+2)) [NG (.ref 6),e1,e2,NG (.int w),NG (.ref (k+7)),NG (.int s)] (hq B t J)= .ok (.nx [NG (.ref 6),e1,e2,NG (.int w),NG (.ref (i+7)),NG (.int s)]) (hq B t' (J++X)):=by
 have oN: ∀ h,aC (run pg (j+2)) [NG (.ref 6),e1,e2,NG (.int w),NG (.ref (k+7)),NG (.int s)] h= .ok NI h:=λ_=>u3;have oS: ∀ h,au (aa 5) (run pg (j+2)) [NG (.ref 6),e1,e2,NG (.int w),NG (.ref (k+7)),NG (.int s)] h= .ok (NG s) h:=λ_=>rfl;have oP: ∀ h,au (aD az (aa 5) (eI 1)) (run pg (j+2)) [NG (.ref 6),e1,e2,NG (.int w),NG (.ref (k+7)),NG (.int s)] h= .ok (NG (s+1)) h:=λ_=>rfl;have sT:gc (run pg (j+2)) [NG (.ref 6),e1,e2,NG (.int w),NG (.ref (k+7)),NG (.int s)] (cE (aa 4) aC (au (aa 5))) B t t J (ws.take s.toNat):=gc.sl rfl oN oS e (B5 s0);have sD: ∀ t X,gc (run pg (j+2)) [NG (.ref 6),e1,e2,NG (.int w),NG (.ref (k+7)),NG (.int s)] (cE (aa 4) (au (aa 5)) aC) B t t (J++X) (ws.drop s.toNat):=λt X=>gc.sl rfl oS oN (dN e X) (sE s0);have sP: ∀ t X,gc (run pg (j+2)) [NG (.ref 6),e1,e2,NG (.int w),NG (.ref (k+7)),NG (.int s)] (cE (aa 4) (au (aD az (aa 5) (eI 1))) aC) B t t (J++X) (ws.drop (s.toNat+1)):=λt X=>gc.sl rfl oP oN (dN e X) (by rw[sE (by omega),show(s+1).toNat=s.toNat+1 by omega]);obtain⟨x,t1,tx,ex⟩:=rG T j hc t;have eW: ∀ X,gc (run pg (j+2)) [NG (.ref 6),e1,e2,NG (.int w),NG (.ref (k+7)),NG (.int s)] (bP (ag (ai "_law_word" (a1 (aa 0))) aA)) B t t1 (J++X) [x]:=λX=>gc.one (by simp? [ex]);have eE: ∀ X,gc (run pg (j+2)) [NG (.ref 6),e1,e2,NG (.int w),NG (.ref (k+7)),NG (.int s)] (bP (a1 (eS ""))) B t t (J++X) [""]:=λX=>gc.one (m:=eS "") rfl;have lt:(ws.take s.toNat).length<=4000:=by rw[OJ];omega
 have ld: ∀ n,(ws.drop n).length<=4000:=λn=>by rw[O9];omega
 have wx:wt [x]<=42:=by show x.length+1+0<=42;have:=tx.2;omega
 have we:wt [""]=1:=by decide +kernel
 have c0:=qU ws s.toNat;have c1:=By ws s.toNat;have mT: ∀ v∈ws.take s.toNat,v∈ws:=λv m=>QZ m;have mD: ∀ n,∀ v∈ws.drop n,v∈ws:=λn v m=>Q0 m;by_cases w6:w < 6
 . obtain⟨X,i,ev,g⟩:=(sT.add eW (by simp only[NK,N4];omega)).add (sP t1) (by rw[NX];simp only[NK,N4];have:=ld (s.toNat+1);omega);refine⟨_,t1,X,i,?_,λv m=>?_,g,?_⟩
   . rw[fF,fF];omega
   . rcases ON.mp m with m | m
     . rcases ON.mp m with m | m
       . exact .inl (mT v m)
       . rw[Od.mp m];exact .inr tx
     . exact .inl (mD _ v m)
   . have ev':Ln (run pg (j+2)) [NG (.ref 6),e1,e2,NG (.int w),NG (.ref (k+7)),NG (.int s)] (hq B t J)=_:=ev;simp? [w6,ev']
 . by_cases w6':w=6
   . obtain⟨X,i,ev,g⟩:=sT.add (sP t) (by have:=ld (s.toNat+1);omega);refine⟨_,t,X,i,?_,λv m=>?_,g,?_⟩
     . rw[fF];omega
     . rcases ON.mp m with m | m
       . exact .inl (mT v m)
       . exact .inl (mD _ v m)
     . have ev':Mc (run pg (j+2)) [NG (.ref 6),e1,e2,NG (.int w),NG (.ref (k+7)),NG (.int s)] (hq B t J)=_:=ev;have z:=eq_true w6';simp? [w6,z,ev']
   . by_cases w7:w=7
     . obtain⟨X,i,ev,g⟩:=(sT.add eW (by simp only[NK,N4];omega)).add (sD t1) (by rw[NX];simp only[NK,N4];have:=ld s.toNat;omega);refine⟨_,t1,X,i,?_,λv m=>?_,g,?_⟩
       . rw[fF,fF];omega
       . rcases ON.mp m with m | m
         . rcases ON.mp m with m | m
           . exact .inl (mT v m)
           . rw[Od.mp m];exact .inr tx
         . exact .inl (mD _ v m)
       . have ev':Lr (run pg (j+2)) [NG (.ref 6),e1,e2,NG (.int w),NG (.ref (k+7)),NG (.int s)] (hq B t J)=_:=ev;have z:=eq_true w7;simp? [w6,w6',z,ev']
     . obtain⟨X,i,ev,g⟩:=(sT.add eE (by simp only[NK,N4];omega)).add (sD t) (by rw[NX];simp only[NK,N4];have:=ld s.toNat;omega);refine⟨_,t,X,i,?_,λv m=>?_,g,?_⟩
       . rw[fF,fF];omega
       . rcases ON.mp m with m | m
         . rcases ON.mp m with m | m
           . exact .inl (mT v m)
           . rw[Od.mp m];exact .inr (by decide +kernel)
         . exact .inl (mD _ v m)
       . have ev':Li (run pg (j+2)) [NG (.ref 6),e1,e2,NG (.int w),NG (.ref (k+7)),NG (.int s)] (hq B t J)=_:=ev;simp? [w6,w6',w7,ev']
end
section
variable{pg:Tb}{aNoLines:Nat}(T:dh aNoLines pg)
include T
theorem AA(j:Nat){B:Bs}(hc:B.2.2≠[])(t:Fd){J:PH}{k N M:Nat}{ls:List Str}(e:J[k]?=NG (.lst (ls.map PV.str)))(tl:Tl N M ls)(n9:N<=50)(m9:M<=1000): ∃(ls':List Str)(k':Nat)(t':Fd)(X:PH),Tl (2*N+1) (M+50) ls'/\(J++X)[k']?=NG (.lst (ls'.map PV.str))/\run pg (j+3) "_law_bent" [.ref 6,.ref (k+7)] (hq B t J)= .ok (.ref (k'+7)) (hq B t' (J++X)):=by
 have ll:=tl.1;have tM: ∀ x∈ls,Tx (M+50) x:=λx m=>(tl.2 x m).mono (by omega);have ln: ∀ t X,bB [.ref (k+7)] (hq B t (J++X))= .ok (.int ls.length) (hq B t (J++X)):=λt X=>by rw[j7 (xs:=ls.map PV.str) (by rw[gy];exact dN e X),NU]
 have ln0: ∀ t,bB [.ref (k+7)] (hq B t J)= .ok (.int ls.length) (hq B t J):=λt=>by have:=ln t [];rwa[Ov] at this
 obtain⟨v,t1,v0,v9,h1⟩:=gu T (j+1) hc t ((ls.length:Int)+1) (by omega) (by omega);obtain⟨w,t2,w0,w9,h2⟩:=gu T (j+1) hc t1 9 (by decide) (by decide);have oN: ∀{e4 e5} h,aC (run pg (j+2)) [NG (.ref 6),NG (.ref (k+7)),NG (.int v),NG (.int w),e4,e5] h= .ok NI h:=λ_=>u3;have oS: ∀{e4 e5} h,au (aa 2) (run pg (j+2)) [NG (.ref 6),NG (.ref (k+7)),NG (.int v),NG (.int w),e4,e5] h= .ok (NG v) h:=λ_=>rfl;have oP: ∀{e4 e5} h,au (aD az (aa 2) (eI 1)) (run pg (j+2)) [NG (.ref 6),NG (.ref (k+7)),NG (.int v),NG (.int w),e4,e5] h= .ok (NG (v+1)) h:=λ_=>rfl;have sT: ∀{e4 e5} t X,gc (run pg (j+2)) [NG (.ref 6),NG (.ref (k+7)),NG (.int v),NG (.int w),e4,e5] (cE (aa 1) aC (au (aa 2))) B t t (J++X) (ls.take v.toNat):=λt X=>gc.sl rfl oN oS (dN e X) (B5 v0);have sD: ∀{e4 e5} t X,gc (run pg (j+2)) [NG (.ref 6),NG (.ref (k+7)),NG (.int v),NG (.int w),e4,e5] (cE (aa 1) (au (aa 2)) aC) B t t (J++X) (ls.drop v.toNat):=λt X=>gc.sl rfl oS oN (dN e X) (sE v0);have sP: ∀{e4 e5} t X,gc (run pg (j+2)) [NG (.ref 6),NG (.ref (k+7)),NG (.int v),NG (.int w),e4,e5] (cE (aa 1) (au (aD az (aa 2) (eI 1))) aC) B t t (J++X) (ls.drop (v.toNat+1)):=λt X=>gc.sl rfl oP oN (dN e X) (by rw[sE (by omega),show(v+1).toNat=v.toNat+1 by omega]);have at0: ∀{m:ME}{E:aG}{t t':Fd}{ys:List Str},gc (run pg (j+2)) E m B t t' (J++[]) ys->gc (run pg (j+2)) E m B t t' J ys:=λh=>by rwa[Ov] at h
 have mT: ∀ x∈ls.take v.toNat,Tx (M+50) x:=λx m=>tM x (QZ m);have mD: ∀ n,∀ x∈ls.drop n,Tx (M+50) x:=λn x m=>tM x (Q0 m);have lT:(ls.take v.toNat).length<=N:=by rw[OJ];omega
 have lD: ∀ n,(ls.drop n).length<=N:=λn=>by rw[O9];omega
 have lD1:=lD v.toNat;have lD2:=lD (v.toNat+1);have lA:(ls.take v.toNat).length+(ls.drop (v.toNat+1)).length<=N:=by rw[OJ,O9];omega
 have one: ∀{x:Str},Tx (M+50) x-> ∀ y∈[x],Tx (M+50) y:=λh y m=>by rw[Od.mp m];exact h
 have both: ∀{a b:List Str},(∀ x∈a,Tx (M+50) x)->(∀ x∈b,Tx (M+50) x)-> ∀ x∈a++b,Tx (M+50) x:=λha hb x m=>by
  rcases ON.mp m with z | z
  . exact ha x z
  . exact hb x z
 by_cases z0:w=0
 . obtain⟨X,i,ev,g⟩:=(at0 (sT t2 [])).add (sP (e4:=NI) (e5:=NI) t2) (by omega);refine⟨_,i,t2,X,⟨by rw[NX];omega,both mT (mD _)⟩,g,?_⟩;rw[run_eq T.cB rfl (by rw[T.gL];rfl)];have ev':Mt (run pg (j+2)) [NG (.ref 6),NG (.ref (k+7)),NG (.int v),NG (.int w),NI,NI] (hq B t2 J)=_:=ev;have z:=eq_true z0;simp? [bw,fO,ln0,h1,h2,z,ev'];exact bC rfl
 by_cases z1:w=1
 . obtain⟨ys,cy,ly,my⟩:=Ko ls (NG v) (NG (v+1));have sM: ∀ X,gc (run pg (j+2)) [NG (.ref 6),NG (.ref (k+7)),NG (.int v),NG (.int w),NI,NI] (cE (aa 1) (au (aa 2)) (au (aD az (aa 2) (eI 1)))) B t2 t2 (J++X) ys:=λX=>gc.sl rfl oS oP (dN e X) cy;obtain⟨X,i,ev,g⟩:=((at0 (sT t2 [])).add sM (by omega)).add (sD t2) (by rw[NX];omega);refine⟨_,i,t2,X,⟨?_,both (both mT λx m=>tM x (my x m)) (mD _)⟩,g,?_⟩
   . rw[NX,NX,OJ,O9];omega
   . rw[run_eq T.cB rfl (by rw[T.gL];rfl)];have ev':MQ (run pg (j+2)) [NG (.ref 6),NG (.ref (k+7)),NG (.int v),NG (.int w),NI,NI] (hq B t2 J)=_:=ev;have z:=eq_true z1;simp? [bw,fO,ln0,h1,h2,z0,z,ev'];exact bC rfl
 by_cases z2:w=2
 . obtain⟨X,i,ev,g⟩:=(at0 (sD t2 [])).add (sT (e4:=NI) (e5:=NI) t2) (by omega);refine⟨_,i,t2,X,⟨by rw[NX,OJ,O9];omega,both (mD _) mT⟩,g,?_⟩;rw[run_eq T.cB rfl (by rw[T.gL];rfl)];have ev':M4 (run pg (j+2)) [NG (.ref 6),NG (.ref (k+7)),NG (.int v),NG (.int w),NI,NI] (hq B t2 J)=_:=ev;have z:=eq_true z2;simp? [bw,fO,ln0,h1,h2,z0,z1,z,ev'];exact bC rfl
 by_cases z3:w=3
 . obtain⟨x,t3,tx,ex⟩:=rG T j hc t2;have eW: ∀ X,gc (run pg (j+2)) [NG (.ref 6),NG (.ref (k+7)),NG (.int v),NG (.int w),NI,NI] (bP (ag (ai "_law_word" (a1 (aa 0))) aA)) B t2 t3 (J++X) [x]:=λX=>gc.one (by simp? [ex]);obtain⟨X,i,ev,g⟩:=((at0 (sT t2 [])).add eW (by simp only[NK,N4];omega)).add (sD t3) (by rw[NX];simp only[NK,N4];omega);refine⟨_,i,t3,X,⟨?_,both (both mT (one (tx.mono (by omega)))) (mD _)⟩,g,?_⟩
   . rw[NX,NX,OJ,O9];simp only[NK,N4];omega
   . rw[run_eq T.cB rfl (by rw[T.gL];rfl)];have ev':Mf (run pg (j+2)) [NG (.ref 6),NG (.ref (k+7)),NG (.int v),NG (.int w),NI,NI] (hq B t2 J)=_:=ev;have z:=eq_true z3;simp? [bw,fO,ln0,h1,h2,z0,z1,z2,z,ev'];exact bC rfl
 by_cases z4:v=(ls.length:Int)
 . refine⟨ls,k,t2,[],⟨by omega,tM⟩,by rw[Ov];exact e,?_⟩;rw[run_eq T.cB rfl (by rw[T.gL];rfl)];have z:=eq_true z4;simp? [bw,fO,ln0,h1,h2,z0,z1,z2,z3,z,Ov];exact bC rfl
 . obtain⟨x,ex⟩: ∃ x,ls[v.toNat]?=NG x:=⟨_,OB (by omega)⟩
   have tx:=tl.2 x (OV ex);have wl:=tx.aE.1;have sp:dP (.str x) [.str " "] (hq B t2 J)= .ok (.ref (J.length+7)) (hq B t2 (J++[.lst ((aE x).map PV.str)])):=(dZ tx (by omega)).trans (by rw[nN,pV]);have ix:fP (.ref (k+7)) (.int v) (hq B t2 J)= .ok (.str x) (hq B t2 J):=by
    rw[mJ,gy,e,nk,P3.cO (n:=v.toNat) (by omega) (by rw[OD,ex];rfl)];rfl
   have lw: ∀ t,bB [.ref (J.length+7)] (hq B t (J++[.lst ((aE x).map PV.str)]))= .ok (.int (aE x).length) (hq B t (J++[.lst ((aE x).map PV.str)])):=λt=>by rw[j7 (xs:=(aE x).map PV.str) (by rw[gy];exact aF),NU]
   obtain⟨s,t3,s0,s9,h3⟩:=gu T (j+1) hc t2 (((aE x).length:Int)+1) (by omega) (by omega);obtain⟨ws',t4,X,i,ww,wm,g,ev⟩:=wH T j hc t3 (J:=J++[.lst ((aE x).map PV.str)]) (k:=J.length) (ws:=aE x) aF (by omega) s0 (w:=w) (by omega) w9 (e1:=NG (.ref (k+7))) (e2:=NG (.int v));have xw:wt (aE x)=x.length+1:=by rw[<- vS (ef x),wK]
   have xl:=tx.2;have ty:Tx (M+50) (jn ws'):=⟨GW λy my=>by
    rcases wm y my with q | q
    . exact(tx.aE.2 y q).1
    . exact q.1,N5 (IJ ws') (by omega)⟩
   have jo:=zd (ws:=ws') (by omega);rw[N0] at g ev;have eJ: ∀ Y,gc (run pg (j+2)) [NG (.ref 6),NG (.ref (k+7)),NG (.int v),NG (.int w),NG (.ref (i+7)),NG (.int s)] (bP (ag (eM gj bD (eS " ") (a1 (aa 4))) aA)) B t4 t4 (J++([.lst ((aE x).map PV.str)]++X)++Y) [jn ws']:=λY=>gc.one (by
    have jr:gj (.str " ") [.ref (i+7)] (hq B t4 (J++([.lst ((aE x).map PV.str)]++X)++Y))= .ok (.str (jn ws')) _:=wQ (ss:=ws') (by rw[gy];exact dN g Y) jo;rw[fU,show eS (NP " ") (run pg (j+2)) [NG (.ref 6),NG (.ref (k+7)),NG (.int v),NG (.int w),NG (.ref (i+7)),NG (.int s)] (hq B t4 (J++([.lst ((aE x).map PV.str)]++X)++Y))= .ok (.str " ") _ from rfl,bR];exact jr)
   obtain⟨Y,i',ev2,g2⟩:=((sT (e4:=NG (.ref (i+7))) (e5:=NG (.int s)) t4 ([.lst ((aE x).map PV.str)]++X)).add eJ (by simp only[NK,N4];omega)).add (λY=>by rw[N0];exact sP (e4:=NG (.ref (i+7))) (e5:=NG (.int s)) t4 _) (by rw[NX];simp only[NK,N4];omega);refine⟨_,i',t4,([.lst ((aE x).map PV.str)]++X)++Y,⟨?_,both (both mT (one ty)) (mD _)⟩,by rw[<- N0];exact g2,?_⟩
   . rw[NX,NX];simp only[NK,N4];omega
   . rw[run_eq T.cB rfl (by rw[T.gL];rfl)];have ev':Mx (run pg (j+2)) [NG (.ref 6),NG (.ref (k+7)),NG (.int v),NG (.int w),NG (.ref (i+7)),NG (.int s)] (hq B t4 (J++([.lst ((aE x).map PV.str)]++X)))=_:=ev2;rw[N0 (J)] at ev';simp only[Qn,Oo] at ev ev' ⊢;simp? [bw,fO,ln0,h1,h2,z0,z1,z2,z3,z4,fU,pz,bD,ix,sp,lw,h3,↓ev,ev'];exact bC (v:= .ref (i'+7)) rfl
end
def K2:MS:=(ar (ai "_law_bent" (a2 (aa 1) (aa 6))) (gN 6))
def KQ:MS:=(aj (ar (eB eA (a1 (aa 4))) (gN 6)) (aj (eR (bG (ag (aD fP (bP (ag (eI 0) (ag (eI 1) (ag (eI 1) (ag (eI 2) (a3 (eI 1) (eI 1) (eI 2))))))) (aa 5)) aA)) (gN 7) (ar (ai "_law_bent" (a2 (aa 1) (aa 6))) (gN 6))) (aj (ar (eB eA (a1 (aa 6))) (gN 8)) (cZ (yK (aV (aD iz (eB aO (ag (ai "_law_told" (a1 (aa 6))) aA)) (eB aO (ag (ai "_law_read" (a1 (aa 8))) aA)))) (aV (aD iz (aa 6) (aa 8)))) (aZ (eC (.bl false))) ee))))
def KN:MS:=(aj (ar (ai "_law_record" (a1 (aa 1))) (gN 3)) (aj (ar (ai "record_lines" (a1 (aa 3))) (gN 4)) (aj (cZ (aV (aD iz (eB aO (a1 (aa 4))) (eB aO (ag (ai "_law_lines" (a1 (aa 3))) aA)))) (aZ (eC (.bl false))) ee) (aj (eR (bG (a1 (eI 7))) (gN 5) (aj (ar (eB eA (a1 (aa 4))) (gN 6)) (aj (eR (bG (ag (aD fP (bP (ag (eI 0) (ag (eI 1) (ag (eI 1) (ag (eI 2) (a3 (eI 1) (eI 1) (eI 2))))))) (aa 5)) aA)) (gN 7) (ar (ai "_law_bent" (a2 (aa 1) (aa 6))) (gN 6))) (aj (ar (eB eA (a1 (aa 6))) (gN 8)) (cZ (yK (aV (aD iz (eB aO (ag (ai "_law_told" (a1 (aa 6))) aA)) (eB aO (ag (ai "_law_read" (a1 (aa 8))) aA)))) (aV (aD iz (aa 6) (aa 8)))) (aZ (eC (.bl false))) ee))))) (aj (cK (eM bt bf (aa 4) (a1 (eS "edge")))) (cZ (aV (aD iz (eB aO (ag (ai "record_lines" (a1 (aa 3))) aA)) (eB aO (ag (ai "_law_lines" (a1 (aa 3))) aA)))) (aZ (eC (.bl false))) ee))))))
theorem zS{h:PH}{n m:Nat}{ss:List Str}(e1:h[n]?=NG (.lst (ss.map PV.str)))(e2:h[m]?=NG (.lst (ss.map PV.str)))(ok: ∀ x∈ss,PJ x=true):iz (.ref n) (.ref m) h= .ok (.bl false) h:=by
 have d1:=ij (k:=5) e1;have d2:=ij (k:=5) e2;have sc:iV (.ref n) (.ref m)=false:=rfl;have c1:(Qs (ss.map O7)).canLay0=true:=by rw[Ub,Sa];exact Ow.mpr ok
 have dp:(Qs (ss.map O7)).depth<=64:=by
  have: ∀ ss:List Str,Pu (ss.map O7)=0:=λss=>by
   induction ss with
   | nil=>rfl
   | cons a r ih=>show max 0 (Pu (r.map O7))=0;rw[ih];rfl
  show Pu (ss.map O7)+1<=64;rw[this];decide
 have er: ∀ ss:List Str,Ww (ss.map O7) (ss.map O7)=true:=λss=>by
  induction ss with
  | nil=>rfl
  | cons a r ih =>
   show((a == a)&&Ww (r.map O7) (r.map O7))=true
   rw[ih,beq_self_eq_true];rfl
 have al:alike (.ref n) (.ref m) h=NG true:=by
  unfold alike;rw[sc,d1,d2];have c3:min (Qs (ss.map O7)).depth (Qs (ss.map O7)).depth<=64:=N5 (S4 _ _) dp;simp only[OL,if_false,c1,c3,and_self,if_true];exact congrArg NG (er ss)
 have nd:eF h (.ref n)=false:=by simp only[eF,e1]
 unfold iz;rw[al,nd];rfl
noncomputable def room:Nat:=16
section
variable{pg:Tb}{aNoLines:Nat}(T:dh aNoLines pg)
include T
theorem tw(j:Nat){B:Bs}(hc:B.2.2≠[]){e0 e2 e3 e4 e5 e8:Option PV}{xs0:List PV}: ∀(xs:List PV)(N M:Nat)(ls:List Str)(k:Nat)(t:Fd)(J:PH)(e7:Option PV),(N+1)*2 ^ xs.length<=52->M+50*xs.length<=1000->Tl N M ls->J[k]?=NG (.lst (ls.map PV.str))-> ∃(ls':List Str)(k':Nat)(t':Fd)(X:PH)(e7':Option PV),Tl 51 1000 ls'/\(J++X)[k']?=NG (.lst (ls'.map PV.str)) /\
  bc ⟨NI,xs0⟩ (aX (gN 7) K2 (run pg (j+3))) xs [e0,NG (.ref 6),e2,e3,e4,e5,NG (.ref (k+7)),e7,e8] (hq B t J)= .ok (.nx [e0,NG (.ref 6),e2,e3,e4,e5,NG (.ref (k'+7)),e7',e8]) (hq B t' (J++X)):=by
 intro xs
 induction xs with
 | nil =>
  intro N M ls k t J e7 b1 b2 tl e
  rw[N4,Nat.pow_zero,Nat.mul_one] at b1
  exact⟨ls,k,t,[],e7,tl.mono (by omega) (by omega),by rw[Ov];exact e,by rw[Ov];exact di⟩
 | cons x xs ih =>
  intro N M ls k t J e7 b1 b2 tl e
  rw[NK,Vb] at b1
  rw[NK] at b2
  have p1:1<=2 ^ xs.length:=Nat.one_le_two_pow
  have n9:N<=50:=by
   have:(N+1)*2<=(N+1)*(2 ^ xs.length*2):=Nat.mul_le_mul_left _ (by omega);omega
  obtain⟨l1,k1,t1,X,tl1,g1,ev⟩:=AA T j hc t e tl n9 (by omega)
  obtain⟨l2,k2,t2,Y,f7,tl2,g2,ev2⟩:=ih (2*N+1) (M+50) l1 k1 t1 (J++X) (NG x) (by
   have:(2*N+1+1)*2 ^ xs.length=(N+1)*(2 ^ xs.length*2):=by rw[Sj (2 ^ xs.length) 2,<- Nat.mul_assoc];congr 1;omega
   omega) (by omega) tl1 g1
  refine⟨l2,k2,t2,X++Y,f7,tl2,by rw[<- N0];exact g2,?_⟩
  have st:aX (gN 7) K2 (run pg (j+3)) x [e0,NG (.ref 6),e2,e3,e4,e5,NG (.ref (k+7)),e7,e8] (hq B t J)= .ok (.nx [e0,NG (.ref 6),e2,e3,e4,e5,NG (.ref (k1+7)),NG x,e8]) (hq B t1 (J++X)):=by
   simp? [K2,ev]
  rw[cw,st,bR,b6,ev2,N0]
theorem zm(j:Nat){B:Bs}(hc:B.2.2≠[])(t:Fd){J:PH}{q:Nat}{L:List Str}(e:J[q]?=NG (.lst (L.map PV.str)))(tl:Tl 12 205 L){i:Nat}(hi:i < 7){e0 e2 e3:Option PV}(e5 e6 e7 e8:Option PV): ∃(t':Fd)(X:PH)(e6' e7' e8':Option PV),
  aX (gN 5) KQ (run pg (j+6)) (.int i) [e0,NG (.ref 6),e2,e3,NG (.ref (q+7)),e5,e6,e7,e8] (hq B t J)= .ok (.nx [e0,NG (.ref 6),e2,e3,NG (.ref (q+7)),NG (.int i),e6',e7',e8']) (hq B t' (J++X)):=by
 obtain⟨n,mn,en⟩:=qP (xs:=[0,1,1,2,1,1,2]) (v:=(i:Int)) (by omega) (show(i:Int) < 7 by omega);have nb:0<=n/\n<=2:=by
  simp only[Ot,Vw,or_false] at mn;omega
 have rl:(aw 0 n.toNat).length=n.toNat:=by simp[P3.aw]
 have p2:2 ^ n.toNat<=2 ^ 2:=Uc (by decide) (by omega);obtain⟨ls,k,t1,X,f7,tl1,g1,lp⟩:=tw T (j+3) hc (e0:=e0) (e2:=e2) (e3:=e3) (e4:=NG (.ref (q+7))) (e5:=NG (.int i)) (e8:=e8) (xs0:=aw 0 n.toNat) (aw 0 n.toNat) 12 205 L J.length t (J++[.lst (L.map PV.str),.lst [.int 0,.int 1,.int 1,.int 2,.int 1,.int 1,.int 2]]) e7 (by rw[rl];omega) (by rw[rl];omega) tl aF;unfold K2 at lp;obtain⟨J3,eJ⟩: ∃ J3,J3=J++[.lst (L.map PV.str),.lst [.int 0,.int 1,.int 1,.int 2,.int 1,.int 1,.int 2]]++X:=⟨_,rfl⟩
 rw[<- eJ] at lp g1;have ts:uM 1000 ls:=⟨N5 tl1.1 (by decide),tl1.2⟩
 have a1:(hq B t1 (J3++[.lst (ls.map PV.str)]))[k+7]?=NG (.lst (ls.map PV.str)):=by rw[gy];exact dN g1 _
 have a2:(hq B t1 (J3++[.lst (ls.map PV.str)]))[J3.length+7]?=NG (.lst (ls.map PV.str)):=by rw[gy];exact aF
 have td:run pg (j+6) "_law_told" [.ref (k+7)] (hq B t1 (J3++[.lst (ls.map PV.str)]))= .ok (rS ls) _:=rZ T j a1 ts (by decide);have rd:=oJ T (j+3) a2 ts (by decide);obtain⟨x,sx⟩:=se ts (by decide) (N5 tl1.1 (by decide));have nn:=zS a1 a2 λy my=>(tl1.2 y my).ok;generalize rS ls=V at td rd sx;simp only[NR,OG] at en;refine⟨t1,[.lst (L.map PV.str),.lst [.int 0,.int 1,.int 1,.int 2,.int 1,.int 1,.int 2]]++(X++[.lst (ls.map PV.str)]),NG (.ref (k+7)),f7,NG (.ref (J3.length+7)),?_⟩;have eH:J++([PO.lst (L.map PV.str),.lst [.int 0,.int 1,.int 1,.int 2,.int 1,.int 1,.int 2]]++(X++[.lst (ls.map PV.str)]))=J3++[.lst (ls.map PV.str)]:=by rw[eJ];simp only[N0]
 rw[eH];simp? [KQ,gy,e,nN,pV,en,lp,g1,td,rd,sx,nn,eq_self]
theorem qo(j:Nat){B:Bs}(hc:B.2.2≠[]){q:Nat}{L:List Str}(tl:Tl 12 205 L){e0 e2 e3:Option PV}{xs0:List PV}: ∀(is:List Nat)(t:Fd)(J:PH)(e5 e6 e7 e8:Option PV),(∀ i∈is,i < 7)->J[q]?=NG (.lst (L.map PV.str))-> ∃(t':Fd)(X:PH)(e5' e6' e7' e8':Option PV),
  bc ⟨NI,xs0⟩ (aX (gN 5) KQ (run pg (j+6))) (is.map λi:Nat=>PV.int (0+(i:Int))) [e0,NG (.ref 6),e2,e3,NG (.ref (q+7)),e5,e6,e7,e8] (hq B t J)= .ok (.nx [e0,NG (.ref 6),e2,e3,NG (.ref (q+7)),e5',e6',e7',e8']) (hq B t' (J++X)):=by
 intro is
 induction is with
 | nil=>intro t J e5 e6 e7 e8 _ _;exact⟨t,[],e5,e6,e7,e8,by rw[Ov];exact di⟩
 | cons i is ih =>
  intro t J e5 e6 e7 e8 hi e
  obtain⟨t1,X,f6,f7,f8,st⟩:=zm T j hc t e tl (hi i N1) (e0:=e0) (e2:=e2) (e3:=e3) e5 e6 e7 e8
  obtain⟨t2,Y,g5,g6,g7,g8,k⟩:=ih t1 (J++X) (NG (.int i)) f6 f7 f8 (λy m=>hi y (NW _ m)) (dN e X)
  have ci:(0:Int)+(i:Int)=(i:Int):=WM _
  exact⟨t2,X++Y,g5,g6,g7,g8,by rw[NR,cw,ci,st,bR,b6,k,N0]⟩
end
section
variable{pg:Tb}{aNoLines:Nat}(T:dh aNoLines pg)
include T
theorem zx(j:Nat){B:Bs}(hc:B.2.2≠[])(t:Fd)(J:PH)(x:PV){e0:Option PV}(e2 e3 e4 e5 e6 e7 e8:Option PV): ∃(t':Fd)(J':PH)(e3' e4' e5' e6' e7' e8':Option PV),
  aX (gN 2) KN (run pg (j+6)) x [e0,NG (.ref 6),e2,e3,e4,e5,e6,e7,e8] (hq B t J)= .ok (.nx [e0,NG (.ref 6),NG x,e3',e4',e5',e6',e7',e8']) (hq B t' J'):=by
 obtain⟨r,t1,ok,h1⟩:=tQ T (j+3) hc t J;obtain⟨ll,tx⟩:=ok.tx;have tl:Tl 12 205 r.ls:=⟨ll,tx⟩
 obtain⟨y,sy⟩:=qq (ss:=r.ls) (by omega) λz m=>(tx z m).mono (by decide);obtain⟨G,h2⟩:=eK T (j+3) (h:=hq B t1 J) ok;rw[nN,pV] at h2;have h3:=λK=>gP T (j+5) (h:=hq B t1 K) ok;simp only[nN,pV] at h3;have s1: ∀ X,aO [.ref (J.length+7)] (hq B t1 (J++ .lst (r.ls.map PV.str)::X))= .ok (.str y) _:=λX=>sy _ _ (by rw[gy];exact aF);obtain⟨J1,eJ⟩: ∃ J1,J1=J++ .lst (r.ls.map PV.str)::G:=⟨_,rfl⟩
 rw[<- eJ] at h2;have g1:J1[J.length]?=NG (.lst (r.ls.map PV.str)):=by rw[eJ];exact aF
 have s1:aO [.ref (J.length+7)] (hq B t1 J1)= .ok (.str y) (hq B t1 J1):=sy _ _ (by rw[gy];exact g1);have s2:aO [.ref (J1.length+7)] (hq B t1 (J1++[.lst (r.ls.map PV.str)]))= .ok (.str y) (hq B t1 (J1++[.lst (r.ls.map PV.str)])):=sy _ _ (by rw[gy];exact aF);obtain⟨t2,X,f5,f6,f7,f8,lp⟩:=qo T j hc (q:=J.length) tl (e0:=e0) (e2:=NG x) (e3:=NG r.v) (xs0:=aw 0 7) (Oa 7) t1 (J1++[.lst (r.ls.map PV.str)]) e5 e6 e7 e8 (λi m=>PK.mp m) (dN g1 _);unfold KQ at lp;rw[show((Oa 7).map λi:Nat=>PV.int (0+(i:Int)))=aw 0 7 from rfl] at lp;obtain⟨J2,eJ2⟩: ∃ J2,J2=J1++[.lst (r.ls.map PV.str)]++X:=⟨_,rfl⟩
 rw[<- eJ2] at lp;have g2:J2[J.length]?=NG (.lst (r.ls.map PV.str)):=by rw[eJ2];exact dN (dN g1 _) _
 have il:bf (.ref (J.length+7)) (hq B t2 J2)=true:=dH (by rw[gy];exact g2);have ap:bt (.ref (J.length+7)) [.str "edge"] (hq B t2 J2)= .ok .non (hq B t2 (J2.set J.length (.lst (r.ls.map PV.str++[.str "edge"])))):=by
  rw[Hd,gy,g2,IM (by rw[NU];omega),KZ]
 obtain⟨J3,eJ3⟩: ∃ J3,J3=J2.set J.length (.lst (r.ls.map PV.str++[.str "edge"])):=⟨_,rfl⟩
 rw[<- eJ3] at ap;obtain⟨G3,h4⟩:=eK T (j+3) (h:=hq B t2 J3) ok;rw[nN,pV] at h4;obtain⟨J4,eJ4⟩: ∃ J4,J4=J3++ .lst (r.ls.map PV.str)::G3:=⟨_,rfl⟩
 rw[<- eJ4] at h4;have s3:aO [.ref (J3.length+7)] (hq B t2 J4)= .ok (.str y) (hq B t2 J4):=sy _ _ (by rw[gy,eJ4];exact aF);have h5:run pg (j+6) "_law_lines" [r.v] (hq B t2 J4)= .ok (.ref (J4.length+7)) (hq B t2 (J4++[.lst (r.ls.map PV.str)])):=by rw[gP T (j+5) ok,nN,pV]
 have s4:aO [.ref (J4.length+7)] (hq B t2 (J4++[.lst (r.ls.map PV.str)]))= .ok (.str y) (hq B t2 (J4++[.lst (r.ls.map PV.str)])):=sy _ _ (by rw[gy];exact aF);have t7:Tc 7=7:=rfl;refine⟨t2,J4++[.lst (r.ls.map PV.str)],NG r.v,NG (.ref (J.length+7)),f5,f6,f7,f8,?_⟩;generalize r.v=V at h1 h2 h3 h4 h5 lp;simp? [KN,h1,h2,s1,h3,s2,lp,t7,fU,pz,il,ap,h4,s3,h5,s4,eq_self]
theorem tT(j:Nat){B:Bs}(hc:B.2.2≠[]){e0:Option PV}{xs0:List PV}: ∀(xs:List PV)(t:Fd)(J:PH)(e2 e3 e4 e5 e6 e7 e8:Option PV),∃(t':Fd)(J':PH)(e2' e3' e4' e5' e6' e7' e8':Option PV),
  bc ⟨NI,xs0⟩ (aX (gN 2) KN (run pg (j+6))) xs [e0,NG (.ref 6),e2,e3,e4,e5,e6,e7,e8] (hq B t J)= .ok (.nx [e0,NG (.ref 6),e2',e3',e4',e5',e6',e7',e8']) (hq B t' J'):=by
 intro xs
 induction xs with
 | nil=>intro t J e2 e3 e4 e5 e6 e7 e8;exact⟨t,J,e2,e3,e4,e5,e6,e7,e8,di⟩
 | cons x xs ih =>
  intro t J e2 e3 e4 e5 e6 e7 e8
  obtain⟨t1,J1,f3,f4,f5,f6,f7,f8,st⟩:=zx T j hc t J x (e0:=e0) e2 e3 e4 e5 e6 e7 e8
  obtain⟨t2,J2,g2,g3,g4,g5,g6,g7,g8,k⟩:=ih t1 J1 (NG x) f3 f4 f5 f6 f7 f8
  exact⟨t2,J2,g2,g3,g4,g5,g6,g7,g8,by rw[cw,st,bR,b6,k]⟩
end
theorem wX(aNoLines:Nat): ∀ ns:List Int,ns.length<=63->Ok (run (tb aNoLines) (room+1) "law" [.ref 0] [.gO (ns.map PV.int)]) λv _=>v= .bl true:=by
 intro ns _;have T:dh aNoLines (tb aNoLines):=has aNoLines;show Ok (run (tb aNoLines) (16+1) "law" [.ref 0] [tF ns]) _;obtain⟨x1,x2,x3,x4,cs,hc,h0⟩:=y6 T 15 ns
 let B:Bs:=(ns,(x1,x2,x3,x4),cs)
 have h0':run (tb aNoLines) 16 "_law_feed" [.ref 0,.int 0] [tF ns]= .ok (.ref 6) (hq B (0,0,0) []):=h0;obtain⟨t1,J1,f2,f3,f4,f5,f6,f7,f8,lp⟩:=tT T 10 (B:=B) hc (e0:=NG (.ref 0)) (xs0:=aw 0 4) (aw 0 4) (0,0,0) [] NI NI NI NI NI NI NI;unfold KN at lp;have ts:uM 1000 ([]:List Str):=⟨OU _,λx m=>nomatch m⟩
 have td:run (tb aNoLines) 16 "_law_told" [.ref (J1.length+7)] (hq B t1 (J1++[.lst []]))= .ok (rS []) _:=rZ T 10 (ls:=[]) (by rw[gy];exact aF) ts (by decide);obtain⟨y,sy⟩:=se ts (by decide) (OU _);have rv:rS []= .tup [.str "row",.int 0]:=rfl;rw[rv] at td sy;have t4:Tc 4=4:=rfl;have hB:B.2.2≠[]:=hc
 clear_value B
 obtain⟨h',e⟩: ∃ h',run (tb aNoLines) (16+1) "law" [.ref 0] [tF ns]= .ok (.bl true) h':=by
  rw[run_eq T.Ci rfl (by rw[T.gL];rfl)];simp? [sj,Cg,h0',lp,t4,pV,nN,td,sy,eq_self];unfold P3.settle;split<;>exact⟨_,rfl⟩
 exact⟨_,h',e,rfl⟩
open PySem PySem.W PyProof.Rows
set_option maxHeartbeats 8000000
def iP(K:NH)(mg:Str->Option NJ):List (String × Nat)->Prop
 | []=>True
 | (x,n)::l=>At K mg x (top n)/\iP K mg l
def Zs(K:NH):List Str->Prop
 | []=>True
 | x::l=>O8 K Ox x=NG NI/\Zs K l
def Mi(K:NH):List (NQ × Str × String × Nat × Nat)->Prop
 | []=>True
 | (C,m,fn,i,j)::l=>KI K C m fn (HD i j)∧Mi K l
theorem qg{P:Om}{w:OC}{K:NH}{mg:Str->Option NJ}{a:NQ}(c:gZ K a)(mk:gh K a=true)(kp:OZ K (.ref a)=true)(gl:mg "NoLines" =NG (.ref a))(q1:Oc K (.ref a) "row" =NG NI)(M:KI K a "__init__" "NoLines.__init__" (HD 6 0)):G4 P w K mg "NoLines" a ["row"] :=
 Ge (N:=["self", "row"]) (ps:=["self", "row"]) c mk kp gl (N8.mpr ⟨q1,(by intro p m;cases m)⟩) M ⟨rfl,rfl,rfl,by decide +kernel,rfl,by decide +kernel,by decide +kernel⟩ (λ_ _ _ _ _ _=>KC λ_ _=>rfl) rfl (λ_ _ _ _ _ _ _ _=>(.cons ⟨_,_,_,_,_,_,rfl,nr rfl (.inl rfl),nr rfl (.inl rfl),rfl,q1⟩ .nil)) (by decide +kernel) (by decide +kernel) (by decide +kernel)
theorem Zs.all{K:NH}{h:OQ}{mg:Str->Option NJ}(X:K.In h)(G:h.Ns Ox mg): ∀{l:List Str},Zs K l-> ∀ x∈l,mg x=NI
 | [],_=>by simp_all
 | _::_,z=>N8.mpr ⟨US X G z.1,Zs.all X G z.2⟩
theorem iP.go{aNoLines aLeastError aNoCut aNoFit aNoPaper aNoProgram aNoRow:Nat}{P:Om}{w:OC}{K:NH}{mg:Str->Option NJ}{x:String}{n:Nat}{l:List (String × Nat)}{st:Pn}{N:List Str}{b:String × Df}{m:List (String × Df)}(F:XF P w K mg aNoLines aLeastError aNoCut aNoFit aNoPaper aNoProgram aNoRow)(g:dh aNoLines (tb aNoLines)->XF P w K mg aNoLines aLeastError aNoCut aNoFit aNoPaper aNoProgram aNoRow->At K mg x (top n)->bS P w K mg (tb aNoLines) b.1 b.2 st N)(A:iP K mg ((x,n)::l))(r:iP K mg l-> ∀ p∈m,∃ st N,bS P w K mg (tb aNoLines) p.1 p.2 st N): ∀ p∈b::m,∃ st N,bS P w K mg (tb aNoLines) p.1 p.2 st N:=N8.mpr ⟨⟨_,_,g (has _) F A.1⟩,r A.2⟩
theorem all_mk{l:R3}{w:OC}{K:NH}{h:OQ}{mg:Str->Option NJ}{fa:NQ}(X:K.In h)(G:h.Ns Ox mg)(hfa:mg "law" =NG (.ref fa)){tQc tQa tQb:Tok}{aNoLines aLeastError aNoCut aNoFit aNoPaper aNoProgram aNoRow:NQ}{ddLeastError:Option NQ}{cdLeastError:ClassData}{slLeastError:Array (Option NJ)}
  (A:iP K mg [("writes_number",11),("record_lines",14),("line_of",15),("shown_number",16),("read_record",17),("read_gifts",18),("read_edge",19),("words_behind",20),("number_in",21),("number_or_none",22),("_law_feed",24),("_law_take",25),("_law_number",26),("_law_record",27),("_law_lines",28),("_law_is_figures",29),("_law_stands",30),("_law_read",31),("_law_told",32),("_law_word",33),("_law_bent",34),("law",35)])
  (Z:Zs K dn)
  (wQc:O8 K Ox "MOST_OF_A_SORT" =NG (NG (.int 4 tQc)))
  (wQa:O8 K Ox "FIGURES" =NG (NG (.str "0123456789" tQa)))
  (wQb:O8 K Ox "MOST_NUMBER" =NG (NG (.int 9999999999999999999999999999999999999999 tQb)))
  (wNoLines:O8 K Ox "NoLines" =NG (NG (.ref aNoLines)))
  (wLeastError:O8 K Ox "LeastError" =NG (NG (.ref aLeastError)))
  (wNoCut:O8 K Ox "NoCut" =NG (NG (.ref aNoCut)))
  (wNoFit:O8 K Ox "NoFit" =NG (NG (.ref aNoFit)))
  (wNoPaper:O8 K Ox "NoPaper" =NG (NG (.ref aNoPaper)))
  (wNoProgram:O8 K Ox "NoProgram" =NG (NG (.ref aNoProgram)))
  (wNoRow:O8 K Ox "NoRow" =NG (NG (.ref aNoRow)))
  (xNoLines:(SV K aNoLines).any (λcd=>xK cd.mro)=true) (yNoLines:RC K aNoLines=true) (oNoLines:O0 K aNoLines (.type "object")=NG true) (bNoLines:O0 K aNoLines (.type "BaseException")=NG true) (sNoLines:Oc K (.ref aNoLines) "__setattr__" =NG (NG (.builtin "object.__setattr__"))) (gNoLines:Oc K (.ref aNoLines) "__getattribute__" =NG (NG (.builtin "BaseException.__getattribute__"))) (tNoLines:Oc K (.ref aNoLines) "__getattr__" =NG NI) (cNoLines:Oc K (.ref aNoLines) "__class__" =NG (NG (.builtin "object.__class__"))) (mkNoLines:gh K aNoLines=true) (kpNoLines:OZ K (.ref aNoLines)=true)
  (fNoLines_row:Oc K (.ref aNoLines) "row" =NG NI)
  (MX:Mi K [(aNoLines, "__init__", "NoLines.__init__",6,0)])
  (lLeastError:K.lookup aLeastError=NG ⟨.type "type",ddLeastError,.cls cdLeastError,slLeastError⟩) (bLeastError:O0 K aLeastError (.type "BaseException")=NG true)
  (uLeastError_NoLines:O0 K aNoLines (.ref aLeastError)=NG true)
  (i0_NoLines:P7 K (.ref aNoLines) (List.map Oe [aNoCut,aNoFit,aNoPaper,aNoProgram,aNoRow])=NG false)
  (i1_NoLines:P7 K (.ref aNoLines) [.ref aNoLines]=NG true)
  (i2_NoLines:P7 K (.ref aNoLines) [.type "ValueError"]=NG true)
  (vV:O8 K Ox "ValueError" =NG NI) :
  ∃ fd:P5,(∀(s:NO)(v:NJ),SJ s fd ⟨[v],[]⟩ [("_law_script",v)])/\ ∀ base:OQ,K.In base->base.Ns Ox mg->fV l.prog w K mg base (gz l.prog w) (room+1) fa fd ["_law_script"] (ig K (tb aNoLines) (room+1) "law"):=by
 have T:Top l.prog w K mg (tb aNoLines):=⟨Zs.all X G Z,Az (conT:=conT) rfl (N8.mpr ⟨qC (Ph X G wQc) (.int _ _),(N8.mpr ⟨qC (Ph X G wQa) (.str _ _),(N8.mpr ⟨qC (Ph X G wQb) (.int _ _),(by intro p m;cases m)⟩)⟩)⟩),yA (dcT:=dcT) rfl (by intro p m;cases m),⟨(λ_ _ e=>nomatch e),λ_ _ e=>nomatch e⟩,λ_ _ _ _ _ e=>nomatch e⟩
 have F:XF l.prog w K mg aNoLines aLeastError aNoCut aNoFit aNoPaper aNoProgram aNoRow:=⟨qg (iu xNoLines yNoLines oNoLines bNoLines sNoLines gNoLines tNoLines) mkNoLines kpNoLines (Ph X G wNoLines) fNoLines_row MX.1,⟨Ph X G wLeastError,⟨⟨_,_,_,lLeastError⟩,bLeastError⟩,(N8.mpr ⟨uLeastError_NoLines,(by intro p m;cases m)⟩)⟩,(ko ⟨iu xNoLines yNoLines oNoLines bNoLines sNoLines gNoLines tNoLines,cNoLines⟩ i0_NoLines mR),(ko ⟨iu xNoLines yNoLines oNoLines bNoLines sNoLines gNoLines tNoLines,cNoLines⟩ i1_NoLines mR),(ko ⟨iu xNoLines yNoLines oNoLines bNoLines sNoLines gNoLines tNoLines,cNoLines⟩ i2_NoLines mR),Ph X G wNoCut,Ph X G wNoFit,Ph X G wNoPaper,Ph X G wNoProgram,Ph X G wNoRow,Ph X G wNoLines,US X G vV,Zs.all X G Z _ (by decide +kernel),(N8.mpr ⟨⟨iu xNoLines yNoLines oNoLines bNoLines sNoLines gNoLines tNoLines,fNoLines_row⟩,(by intro p m;cases m)⟩)⟩
 refine DP T (v3 (fnT:=fnT aNoLines) rfl ?_) (has _).Ci rfl (Cb (has _) F A.2.2.2.2.2.2.2.2.2.2.2.2.2.2.2.2.2.2.2.2.2.1) hfa;exact iP.go F js A λA=>iP.go F jV A λA=>iP.go F tZ A λA=>iP.go F j0 A λA=>iP.go F kr A λA=>iP.go F nt A λA=>iP.go F ph A λA=>iP.go F ka A λA=>iP.go F oK A λA=>iP.go F iM A λA=>iP.go F oF A λA=>iP.go F oU A λA=>iP.go F kF A λA=>iP.go F ky A λA=>iP.go F mB A λA=>iP.go F gU A λA=>iP.go F kR A λA=>iP.go F pR A λA=>iP.go F o6 A λA=>iP.go F nV A λA=>iP.go F n8 A λA=>iP.go F Cb A λ_ p m=>nomatch m
theorem walk{aNoLines:Nat}{l:R3}{q:Om}{loose:List Str}{XP:(Str->Option NJ)->OQ->Prop}{YP:OC->OQ->Prop}{d:DefRec}{K:Params->NH}(hn:l.most=NG 63)(hdf:d.params.defaults=[])
  (hY: ∀(w:OC)(h:OQ),YP w h->(K w.params).In h)
  (F: ∀(w:OC)(mg:Str->Option NJ)(fa:NQ)(h:OQ),(K w.params).In h->h.Ns Ox mg->mg d.name=NG (.ref fa) ->
   ∃ fd:P5,(∀(s:NO)(u:NJ),SJ s fd ⟨[u],[]⟩ [("_law_script",u)])/\ ∀ base:OQ,(K w.params).In base->base.Ns Ox mg->fV l.prog w (K w.params) mg base (gz l.prog w) (room+1) fa fd ["_law_script"] (ig (K w.params) (tb aNoLines) (room+1) "law")) :
  VN q loose XP YP l.row.toRowW d [] (λf vs=>VX f vs) :=
 L2.Bo (n:=63) (k:=room+1) (x:= "_law_script") (CX:=λw=>gz l.prog w) (sp:=λw=>ig (K w.params) (tb aNoLines) (room+1) "law") hn (by decide) hdf ⟨rfl,by decide,by decide,rfl⟩ hY F (λ_ H a ns hl hO hS=>GO (wX aNoLines) H a ns hl hO hS) λ_ _ _ _ _ ⟨_,_,_,_,_,_,_,_,_,_,z⟩=>z
end K71
open PySem PySem.W PyProof.Rows
set_option maxRecDepth 100000 in
set_option maxHeartbeats 0 in
theorem PySem.Challenge.cw_leastrecord_k71_records_as_lines_holds : PySem.Challenge.rw_leastrecord_k71_records_as_lines.Holds := by
 w_on;o_law;k_head;(case hw=>w_witness2)
 k_fill
 refine K71.walk (l:=PySem.Challenge.rw_leastrecord_k71_records_as_lines) (aNoLines:=?aNoLines) rfl rfl (λw h Y=>PySem.W.kIn_of Y) ?F
 case F =>
  intro w mg fa h KX G hmg
  refine' K71.all_mk KX G hmg ?A ?Z ?_ ?_ ?_ ?_ ?_ ?_ ?_ ?_ ?_ ?_ ?_ ?_ ?_ ?_ ?_ ?_ ?_ ?_ (P3.CD ?_ ?_ ?_ ?_ ?_ ?_ ?_ ?_) ?_ ?_ ?MX ?_ ?_ ?_ ?_ ?_ ?_ ?_
  case' A=>repeat' first | exact trivial | refine' RW (L2.Jp KX G ?_ ?_ ?_ ?_) ?_
  case' MX=>repeat' first | exact trivial | refine' RW (P3.IY ?_ ?_ ?_ ?_ ?_) ?_
  case' Z=>repeat' first | exact trivial | refine' RW ?_ ?_
  all_goals try k_is
  all_goals try k_is
  all_goals try exact rfl
  all_goals try k_is
  all_goals try k_is
  all_goals exact rfl
end
end
end
