import PyProof.Rows.All
import Wide.All
import OpenK.AllK
import Wide.FinOn
import Lean
import PyProof.EqAt
import PyProof.EqKinds
import PyProof.TupleCall
import KE.KDictSum
import KE.KIntText
import KE.KSortTup
import KE.LcSums
import PyProof.AttrMissHeap
import PyProof.AutoListH
import PyProof.CallStr
import PyProof.CollectWalk
import PyProof.Draws
import PyProof.EnumFor
import PyProof.EnumMake
import PyProof.FString
import PyProof.ListMulRoad
import PyProof.ListNew
import PyProof.ListRange
import PyProof.MeetsStr2
import PyProof.ReprRoads
import PyProof.Rows.SetFrom
import PyProof.SetRoads
import PyProof.StrCalls2
import PyProof.TupleOfGen
import PyProof.WalksMore
import PyProof.ZipIter
import PySem.Challenge.RW_leastrecord_k31_whole_pieces
open Option renaming some->fI,none->ox,getD_some->SE,map_eq_some_iff->Ta,map_some->UC,isSome_iff_exists->VV,guard->Xd,getD_none->Dj
open PySem renaming wpAny_bind->mh,Value->RZ,Shared->R8,wpAny_pure->Sg,Addr->Sl,wpAny->SD,Heap->SM,model->SN,Program->SP,wpAny_field->S7,World->Tp,Expr->Tr,wpAny_holding->Tv,wpAny_callSpecial?_slot->TN,Around->TP,wpAny_Call_Name_kw->TU,wpAny_passesOwn->TV,wpAny_seqItems->T7,wpAny_call_entry->Ua,wpAny_mono->Ub,wpAny_truthy_bool->Ud,wpAny_ite_split->Uk,foldedSetIterable->Us,wpAny_pyIter_tuple->Ux,wpAny_setField_rec->Uy,compareOp->UA,wpAny_newObj_type->UB,mainGlobals->UI,call_meets->US,Paired->UX,IsPair->UZ,cellsFrom->U0,sysModules->U9,mem_of_lookup->Vb,Builtin->Vc,PyData->Vd,wpAny_typeOf->Vo,FuncData->Vt,wpAny_execs_nil->Vv,codeAny_builtin->Vw,wpAny_load->VG,compEnvC->VI,wpAny_eqBool_int->VM,starEach->VU,wpAny_rule->V6,NameKind->Wh,bootBuiltins->Wj,eval->Wm,wpAny_Call_method_late->Wn,wpAny_setField->Wo,ZipApart->Wu,wpAny_nextOf_list_item->Wv,wpAny_isTrue_Compare1->WA,assignEach->WE,getItem->WI,codeAny->WJ,wpAny_newList->WK,wpAny_onRaise->WL,subscripted->WO,wpAny_updateSeq_pair->WT,letOwnedTupleGo->WX,wpAny_specialOf->WZ,wpAny_updateSeq->W4,binaryOp->Xj,wpAny_letOwnedTupleGo_enum->Xs,wpAny_binaryOp_repeat_ref->XE,Scope->XG,sliceBounds->XH,wpAny_pyIter_enum->XR,intBits_le_64->XT,Stmt->XX,behindInMarks->XY,assign->XZ,attributeBase->X3,pyNext->X4,rawInt->X5,wpAny_comprehension_free->X6,plainId_quiet->X7,wpAny_attempt->Yd,pushCells->Yv,noFill_tuple_add->Yy,field->YB,wpAny_isInstance->YC,wpAny_pyIter_zip->YE,wpAny_pyNext_enum_itemD->YG,IsPart->YM,typeLookup->YN,IsEnum->YR,wpAny_pyNext_enum_endD->YT,pushCells_keeps->Y4,Reads->Y8,wpAny_loadPart'->Za,wpAny_notOrdered_dict->Zc,wpAny_nextOf_list_end->Ze,cLine->Zn,newFunctionEnv->Zp,callType_codes->Zr,wpAny_newTuple->Zw,IsZip->Zx,wpAny_letGo->Zy,BindsTo->ZH,swapsWith->ZI,setFlight->ZJ,wpAny_Assign_stores->ZL,codeAny_forLoop_any->ZM,wpAny_standAt->ZU,seq_tuple_add->ZV,merged->Z8,stored->Z9,typeIs_int->sx,seqIndex_neg->Cs,bindArgs->Bd,concat_meets->wq,Meets->MF,Result->vD,noteFrame->NC,seqSlot_of->O0,seqIndex_of->EO,operate->Kb,holding->LJ,callerA->zF,backTo->Ez,pyIter->HS,call->Ig,Fin->GU
open List renaming length_map->xn,getElem?_eq_some_iff->RY,getElem?_eq_getElem->R6,append_assoc->R7,map_cons->R9,length_cons->Sb,mem_cons->Sd,mem_of_getElem?->Se,mem_singleton->Sf,length_append->Sj,mem_cons_of_mem->Sk,mem_cons_self->So,not_mem_nil->Sp,getElem?_map->Sq,size_toArray->Ss,replicate->Sz,append_nil->SA,map_nil->SF,nil_append->SG,map_append->SH,getD_eq_getElem?_getD->SI,filter_cons_of_pos->SJ,filter_cons_of_neg->SR,mem_map->SS,getElem?_set_self->SV,length_nil->S4,getElem?_cons_succ->S5,range->S6,getElem?_append_right->S8,length_set->Td,getElem?_set_ne->Te,map_map->Tf,mem_append->Ti,getElem?_eq_none->Tn,mem_append_right->To,mem_append_left->Tq,mem_or_eq_of_mem_set->Tz,cons_append->TA,length_take->TM,getElem?_append_left->TQ,eq_nil_of_length_eq_zero->Ue,getElem?_toArray->Ug,forIn_cons->Ui,pairwise_mergeSort->Ul,mem_filter->Uu,getElem_mem->Uw,pairwise_append->Uz,mergeSort_perm->UD,map_congr_left->UE,drop_eq_nil_of_le->UG,lookup_cons->UM,mem_range->UO,pairwise_cons->UQ,zip_cons_cons->UT,filter_append->UU,drop_eq_getElem_cons->UY,nodup_cons->U1,length_range->U4,nodup_append->U5,filterMap_cons_none->U7,filterMap_cons_some->U8,filter_cons->Ve,length_drop->Vg,filter_eq_nil_iff->Vs,length_filter_le->VA,pairwise_map->VB,idxOf_lt_length_of_mem->VE,forall_mem_cons->VK,getElem?_eq_none_iff->VQ,replicate_succ->VR,any_cons->VT,filterMap_eq_filter->V0,of_mem_zip->V4,length_zip->V5,getElem_idxOf->V8,pairwise_singleton->Wa,getElem?_replicate->Wb,take_of_length_le->Wi,filterMap_eq_map'->Wx,mem_iff_getElem?->Wz,all_eq_true->WG,map_take->WM,mem_of_mem_take->WU,find?_some->WY,headD_cons->W5,filterMap_cons->W6,getElem?_range->W7,filter_sublist->W9,set_cons_zero->Xg,getElem?_take->Xh,mem_filterMap->Xk,map_filterMap->Xx,find?_eq_none->Xy,pairwise_iff_getElem->XB,mem_of_find?_eq_some->XC,getElem?_zip_eq_some->XF,getElem?_inj->XI,ext_getElem?->XJ,flatten_cons->XN,range'->XO,all_cons->XW,map_drop->Yk,length_filterMap_le->Ym,getElem_inj->Yn,take_length->Yt,range'_succ->YD,not_of_lt_findIdx->YS,find?_cons_of_neg->YU,length_replicate->Zb,set_getElem_self->Zg,take_append_drop->Zh,set_append_left->Zl,getElem?_zipIdx->Zm,range_eq_range'->ZA,mem_of_mem_drop->ZD,length_pos_iff->ZS,getElem_of_mem->ZT,foldl->Z7,zip_nil_left->NU,getElem?_set->E3,filter_congr->wz,find?_append->FQ,any_eq_true->Gz,zipIdx_cons->EM,length->FH,find?_cons->Bw,drop_zero->qx,tail_cons->G5
open PySem.Heap renaming get?_push_of_some->Sa,lt_size->Su,get?_push_size->Sv,get?_update_other->S9,get?_update_self->TH,size_push->TL,get?_none_of_le->Um,push->Uo,get?_push_ne->Wt,size_update->WH,SameBut->Xa,size_after_update->YJ,get?_update_ne->ZP
open Nat renaming le_refl->Si,le_trans->Sx,lt_of_lt_of_le->SK,ne_of_lt->SW,zero_le->SX,ne_of_gt->TB,lt_irrefl->TF,lt_or_ge->TJ,lt_succ_of_lt->Uc,le_of_ble_eq_true->Uh,not_lt->Uq,lt_succ_self->UN,lt_trans->U2,le_succ_of_le->U3,le_of_lt->Vl,lt_of_le_of_lt->Vq,le_add_right->VL,le_antisymm->V3,le_of_succ_le->Wr,succ_le_succ->WD,le_succ->WN,min_eq_left->WW,add_le_add_left->W8,lt_of_lt_of_eq->Xo,add_assoc->Yl,min_le_right->YH,le_of_eq->YL,lt_of_succ_lt_succ->YO,zero_add->YQ,add_comm->YY,not_lt_zero->Y7,ble->ZK,lt_succ_of_le->BQ,le_total->L8,mul_comm->Ib,add_zero->RC,min_eq_right->vb
open Bool renaming and_eq_true->Sr,and_eq_true_iff->SU,not_eq_true'->Tt,false_ne_true->T6,eq_iff_iff->Uj,true_and->UL,and_true->Va,and_self->VS,or_eq_true->V2,false_and->Wy,false_eq_true->Xv,and_false->Xw
open PySem.W renaming Frag->Sy,mg_of->UJ,kas_sort->UP,findIn->UR,keepIn->Vf,fnOf->VN,cellsFrom_some->Wq,OpenLaw->WQ,sortI->YZ,instObj->Y0,codeIn->Zo,lookIn->Zq,mroIn->ZW,hasDictIn->EP,kas_ask->N4,plainGet->QD,makesIn->uU,WalkO->Gk,kitAny->Ha,isFn->Pn,nsIn->y7,insI->Gh
open PySem.Str renaming ofString->SO,ofString_eq_toList->YI
open Int renaming toNat_natCast->SQ,eq_ofNat_of_zero_le->Tj,zero_add->Vr,emod_nonneg->Vx,toNat->Xf,emod_lt_of_pos->M7
open Option.some renaming inj->SY,injEq->XQ
open PySem.PyData renaming canLayAll0->Tg,strOk->TK,depthAll->T9,eqv->U6,canLay0->Vj,list->Vk,leavesShort->V9,depth->Ww,leavesShortAll->WC,int->Xt,showableAll->Xu,hasDictAll->XS,shown_fits_bulk->YV,tuple->YW,str->YX,bulkAll->ZC,bulk->BV,showable->Du,eqvAll->qU
open PyProof.Rows renaming callWith_type1->Th,slot_tuple_getitem->TR,seqObj->VJ,IsTup->Wl,StrsAre->Xb,isStrOf->Xc,sortedAll->Xe,envOfC->Xl,sortedHeap->Xn,AllBare->XK,Constant_none->X0,listUpdate_at->Ya,subscriptTail->Yf,entry_list_sort->Y6,slot_list_sort->Zi,args_list_sort->Zj,SortKind->Zv,IntsAre->ZG,entry_tuple_getitem->ZO,args_tuple_getitem->Z6,plain_sorted->yH,entry_sorted->GR,args_sorted1->MZ,listItems_at->LU,tuples'->BC,tail_any->q9,boot_list->KC,kind_sorted->LP,seqEpoch_at->FP,boot_sorted->Nf,sortedS->QN,keyKind'->Qx
open PySem.Obj renaming mapSeq->Tu,isFreed_of_fields->UW,data_mapFields->Vn,mapFields->Vy,cls_mapFields->JX
open Array renaming length_toList->Tw,getElem?_eq_some_iff->T1,getD_eq_getD_getElem?->Up,getElem?_eq_getElem->Uv,getElem?_toList->WB,size_push->Y5,forIn_toList->M3,toList_push->zH,toList_inj->Pw
open PySem.Value renaming none->Tx,ref->TZ,type->VH,bool->Xq,int->ZF,isStrOf->xT,str->Ka
open PySem.Calls renaming spliced_cons->TG,spliced_nil->Ur,callWith_builtin->Vm,evalArgs_plain->VF,call_function_entry->VP,Name_function_global->Xi
open PySem.Builtin.SmallTypes renaming nextOf->TS,ownedTupleIsFree->UK,ownedTupleHandOut->ZR
open PySem.AutoSeq1 renaming wpAny_loadPart'->TX
open PySem.F renaming slot_zip_next->TY,slot_tuple_iterator_next->Ut,slot_tuple_mul->UH,args_zip_next_1->Vh,entry_zip_next->Vp,args_tuple_add_2->VY,args_tuple_mul_2->VZ,args_tuple_iterator_next_1->V7,entry_tuple_add->Wc,entry_tuple_mul->We,plainAttrs_list->Wf,entry_tuple_iterator_next->Wg,slot_tuple_add->Ws,slot_dict_getitem->XD,slot_str_eq_refl->X9,plainAttrs_tuple->Yh,slot_tuple_index->Yi,type_tuple_index->Yj,slot_tuple_rmul->Yz,slot_dict_get->Zd,slot_int_rmul->Zf,sub_str_dict->Zt,slot_dict_eq->Zu
open List.Nodup renaming length_le_of_subset->Vi
open ForInStep renaming yield->Vu
open PySem.Paired renaming length->Vz,cons->ZE
open Ne renaming symm->VC
open PySem.Builtin.List renaming listExtendWith->VD,listTooLong->XU,listSameRef->Yg
open PySem.Builtin.Slice renaming slicePlaces->VO,sliceAdjust->Xz
open PySem.NameKind renaming free->VW,cell->VX
open Sum renaming inr->V1,inl->OW
open PySem.Around renaming under_plainId->WR
open List.cons renaming injEq->WV
open PySem.Heap.DictOf renaming new->W3
open PySem.Builtin.Tuple renaming tupleItemsOf->Xm,tupleTooMany->Xr
open PySem.SeqAt.EqAt renaming str_str->Xp,int_str->ZY,str_int->ZZ
open Decidable renaming byContradiction->XA
open PySem.Data renaming fields->XM
open PySem.Builtin.Dict renaming selfAndRest->X8
open PySem.Builtin.Str renaming occurrences->Yo
open PySem.Builtin.Range renaming rangeSize->Yu
open And renaming intro->Yx
open PySem.IsL renaming isList->YF
open List.Perm renaming refl->Zk
open Std.Legacy.Range renaming forIn_eq_forIn_range'->Zz
open PySem.EntryCells renaming newEntry->ZN
open PySem.Heap.SameBut renaming update->ZQ
open Char renaming toNat->ZX
open PySem.SeqAt renaming EqAt->Pt
open Prod renaming ext->vO,ext_iff->Oj
open Exists renaming intro->QW
open Nat.succ renaming inj->Kx
open PySem.IsRange renaming new->HZ
open Sum.inr renaming inj->B1
open PySem.Heap.IsSliceOf renaming new->abj
set_option genSizeOf false
set_option compiler.extract_closed false
set_option bootstrap.genMatcherCode false
theorem Ik(h:True:=by first | exact .inl rfl | exact .inr rfl | exact .inr (.inl rfl) | exact .inr (.inr rfl) | assumption):True:=h
def kX:Lean.Syntax:=Ik._auto_1
theorem HF(h:True:=by decide):True:=h
def cT:Lean.Syntax:=HF._auto_1
theorem FZ(h:True:=by intros;rfl):True:=h
def aG:Lean.Syntax:=FZ._auto_1
theorem HR(h:True:=by with_unfolding_all rfl):True:=h
def OJ:Lean.Syntax:=HR._auto_1
theorem Hm(h:True:=by exact PassesOwn.leaving):True:=h
def D3:Lean.Syntax:=Hm._auto_1
theorem HP(h:True:=by decide +kernel):True:=h
def IW:Lean.Syntax:=HP._auto_1
noncomputable section
open Lean in
def Qo:Nat->Syntax->Syntax
 | n+1,.node _ `Lean.Parser.Term.anonymousCtor #[_,.node _ _ xs,_]=> .node .none `Lean.Parser.Tactic.rcasesPat.tuple #[mkAtom "⟨",mkNullNode (xs.map λx=>if x.isAtom then x else .node .none `Lean.Parser.Tactic.rcasesPatLo #[.node .none `Lean.Parser.Tactic.rcasesPatMed #[mkNullNode #[Qo n x]],mkNullNode]),mkAtom "⟩"]
 | _,.node _ `Lean.Parser.Term.hole _=> .node .none `Lean.Parser.Tactic.rcasesPat.ignore #[mkAtom "_"]
 | _,s=> .node .none `Lean.Parser.Tactic.rcasesPat.one #[s]
def Ro(b:Lean.Term):Bool:=(b.raw.find? (·.isOfKind `Lean.Parser.Term.syntheticHole)).isNone
local macro_rules
 | `(let $p:term:= $e; $b)=>if p.raw.isOfKind `Lean.Parser.Term.anonymousCtor&&Ro b then `(by rcases id $e with $(⟨Qo 9 p⟩):rcasesPat;exact $b) else Lean.Macro.throwUnsupported
local macro_rules
 | `(fun $xs* => $b)=>do
  let z:Lean.Term:=⟨Lean.mkIdent `z_p⟩
  if let fI i:=xs.findIdx? (λx=>x.raw.isOfKind `Lean.Parser.Term.anonymousCtor&&Ro b) then
   return <- `(fun $(xs.set! i z)* =>by rcases $z:term with $(⟨Qo 9 xs[i]!⟩):rcasesPat;exact $b)
  let ys:=xs.map λx=>if x.raw.isOfKind `Lean.Parser.Term.hole then ⟨Lean.mkIdent `z_⟩ else x
  if ys == xs then Lean.Macro.throwUnsupported
  `(fun $ys* => $b)
local macro_rules
 | `(nomatch $e)=> `(by cases $e:term)
local macro_rules
 | `(tactic| omega)=> `(tactic| first | lia | omega (config:={}))
theorem QV{i:Nat}(h:i < 2):i=0\/i=1:=by omega
theorem QY{i:Nat}(h:i < 3):i=0\/i=1\/i=2:=by omega
theorem Cv{i:Nat}(h:i < 4):i=0\/i=1\/i=2\/i=3:=by omega
theorem NK{i:Nat}(h:i < 7):i=0\/i=1\/i=2\/i=3\/i=4\/i=5\/i=6:=by omega
namespace PySem.W.Fast
noncomputable def tz:=0
def tw9544500223121268038:=tz
def tw2016452783565184710:=tz
def tw9635433058301743945:=tz
def tw16463849495076642631:=tz
def tw5060390926097744130:=tz
def tw11366126615378293139:=tz
def tw18426613526562356951:=tz
def tw13033142088256964817:=tz
def tw15643497858707101666:=tz
def tw3298439951626271711:=tz
def tw6174184979362508918:=tz
def tw11151941268126185044:=tz
def tw11628364945495181348:=tz
def tw6140142168016079028:=tz
def tw2644435211382342229:=tz
def tw7629733883052131436:=tz
def tw15178333195908884686:=tz
def tw14654467481305906170:=tz
def tw8422755475156331916:=tz
def tw1490185454740277887:=tz
def tw10467702147015823888:=tz
def tw17367479402688030356:=tz
def tw10990790150970908230:=tz
def tw8025179538817200450:=tz
def tw11606014397236056369:=tz
def tw8844009052463943591:=tz
def tw1167293816148600012:=tz
def tw5231198090473674319:=tz
def tw15754552770643774306:=tz
def tw9270515577039377803:=tz
def tw15811382752328221889:=tz
def tw16423009042564215665:=tz
def tw11186695348772023264:=tz
def tw16476590760284386832:=tz
def tw12074923745574653806:=tz
def tw2227512795862992302:=tz
def tw10366759081669353113:=tz
def tw6095981247819702017:=tz
def tw7932482982534594650:=tz
def tw15334128616122300232:=tz
def tw14839045816153290368:=tz
def tw225734309785260750:=tz
def tw691203395295389776:=tz
def tw16431844882624752765:=tz
def tw7830971477777101163:=tz
def tw6545634552003959644:=tz
def tw9681516748543494318:=tz
def tw13564946105073289634:=tz
def tw13310240699486813858:=tz
def tw471620876149373434:=tz
def tw3327115141566399517:=tz
def tw16085537571041645983:=tz
def tw7470202611106489885:=tz
def tw9900747419564282542:=tz
def tw6087340271874293113:=tz
def tw6227977635755533171:=tz
def tw12322189041433913650:=tz
def tw3025202011731322801:=tz
def tw14257627496144918644:=tz
def tw8185650376631088261:=tz
def tw12033580962775897629:=tz
def tw1199224318105104929:=tz
def tw14346721948401304316:=tz
def tw4599292292509418232:=tz
def tw10126997302407438733:=tz
def tw3573961240938094705:=tz
def tw4149586118410416237:=tz
def tw725831792386555006:=tz
def tw9435560463603238004:=tz
def tw2050305616311678506:=tz
def tw16515631926806911989:=tz
def tw84812848888183689:=tz
def tw15618789321285680044:=tz
def tw16959586680435836928:=tz
def tw17309713625235475095:=tz
def tw12325840395806837:=tz
def tw8775985122148001406:=tz
def tw1284949785548768641:=tz
def tw5591107048642389063:=tz
def tw9645042009371965517:=tz
def tw6397257174228588879:=tz
def tw2046890354530804597:=tz
def tw15086571413142793736:=tz
def tw15574507993184335447:=tz
def tw16451554089048671358:=tz
def tw14890941168151651823:=tz
def tw15838664148094488246:=tz
def tw4038321782509858872:=tz
def tw13600394112078402162:=tz
def tw16706685397947379311:=tz
def tw8289109755877297501:=tz
def tw15819345111077310473:=tz
def tw12368582819667349240:=tz
def tw12611877275888628333:=tz
def tw10040540094521607420:=tz
def tw15886539012893620144:=tz
def tw11497163670717646346:=tz
def tw8020271635110554121:=tz
def tw12988676565377417720:=tz
def tw11092323385395195739:=tz
def tw11965938936258931601:=tz
def tw9554852795624897499:=tz
def tw2050362428428427333:=tz
def tw16594645090480694004:=tz
def tw16590870658085946843:=tz
def tw10290005892937084682:=tz
def tw3404213347466088912:=tz
def tw15158027606409546788:=tz
def tw3965674396198322191:=tz
def tw17223886229119657612:=tz
def tw15814794781094086598:=tz
def tw2024849090242034721:=tz
def tw17641663401292944545:=tz
def tw8461831090294295166:=tz
def tw9603089519924646208:=tz
def tw6802265979323474304:=tz
def tw17156104921574092083:=tz
def tw17905340741692691109:=tz
def tw3289308442363873694:=tz
def tw4376343638795148595:=tz
def tw170218173396717546:=tz
def tw1398938395754443286:=tz
def tw644487804516565916:=tz
def tw14433335967455854575:=tz
def tw6103083331397363419:=tz
def tw8120755750079145801:=tz
def tw8555365560985970815:=tz
def tw6896531912318593206:=tz
def tw3841638215754842199:=tz
def tw13383098438346238071:=tz
def tw9115903999881385943:=tz
def tw12936445588263381087:=tz
def tw1007007526855704107:=tz
def tw17562353789855699560:=tz
def tw2561725861417999365:=tz
def tw13679604093043701344:=tz
def tw2829912436981939947:=tz
def tw969214710265531166:=tz
def tw8191618793283687147:=tz
def tw14731844294051539415:=tz
def tw18062719745242528466:=tz
def tw14059815799734601054:=tz
def tw11170073087641119068:=tz
def tw17978517960793097468:=tz
def tw17021928355753305635:=tz
def tw11693769600476912437:=tz
def tw14362905823994336022:=tz
def tw10798406226507443642:=tz
def tw8469751407420026426:=tz
def tw8182232793314330374:=tz
def tw11772544847057681526:=tz
def tw10024211748360294351:=tz
def tw2460167610753051167:=tz
def tw7095560199193816363:=tz
def tw16811277265882237500:=tz
def tw17798859809054358723:=tz
def tw13261793454668777128:=tz
def tw16848734184253925283:=tz
def tw17336915061854816042:=tz
def tw5458880925166513137:=tz
def tw2413839826080674270:=tz
def tw3115333270656284398:=tz
def tw1834921495471487938:=tz
def tw13986639224312952247:=tz
def tw2673836248006686721:=tz
def tw16546157375018241462:=tz
def tw14965422645798876383:=tz
def tw5547725736981729125:=tz
def tw7386093509112561233:=tz
def tw18359622798942690914:=tz
def tw414456066561171466:=tz
def tw13291446769454511031:=tz
def tw12436492730448493899:=tz
def tw6678775067829119141:=tz
def tw17593490910586213483:=tz
def tw5524146620697893838:=tz
def tw7932165754752081114:=tz
def tw7190677438286676245:=tz
def tw5316411032827065366:=tz
def tw9153562008181615050:=tz
def tw10820666766644902854:=tz
def tw16346251673256387847:=tz
def tw4382518542840328067:=tz
def tw11179093131430499911:=tz
def tw13653018142160702958:=tz
def tw5796122528327350038:=tz
def tw2571052249549468535:=tz
def tw10162559493214205979:=tz
def tw17674397403437895745:=tz
def tw14793437231106698243:=tz
def tw13376562873585991929:=tz
def tw11154307127898793695:=tz
def tw1128991000311528247:=tz
def tw12174787896486074724:=tz
def tw7100211873421235249:=tz
def tw7369353992437761579:=tz
def tw1166967272549022283:=tz
def tw14048991704197923249:=tz
def tw17805728637566721860:=tz
def tw5528290031644660980:=tz
def tw10580952947140601580:=tz
def tw6374235179342095316:=tz
def tw1973527068098733926:=tz
def tw2644203307114029321:=tz
def tw617815937594074757:=tz
def tw8897487235949658464:=tz
def tw10579058488148367871:=tz
def tw1949415272379389266:=tz
def tw5117541124229085131:=tz
def tw7043577154966552964:=tz
def tw14779167169019411520:=tz
def tw6711217108427903156:=tz
def tw16114093192016965558:=tz
def tw8587639311344576904:=tz
def tw6932919490923523061:=tz
def tw4157037265130330742:=tz
def tw11302430279983616457:=tz
def tw14479925853187392897:=tz
def tw9686694440888717740:=tz
def tw14702346488340644974:=tz
def tw8222213620085855790:=tz
def tw7605937499371461115:=tz
def tw1767835502836314917:=tz
def tw16594245238704619730:=tz
def tw15743872704635020675:=tz
def tw10787252940285188156:=tz
def tw17266633798331196310:=tz
def tw15148887929592961535:=tz
def tw16191462858814352578:=tz
def tw11456379406834606706:=tz
def tw5737054721827504262:=tz
def tw4626775780651043942:=tz
def tw13272066573432239321:=tz
def tw11729680207985135147:=tz
def tw3560481648162623976:=tz
def tw567427755392836071:=tz
def tw11711922343843409621:=tz
def tw2810879063453223577:=tz
def tw17911308228135150129:=tz
def tw1020425356404405522:=tz
def tw10445765979385187048:=tz
def tw8382221493798347239:=tz
def tw15122448964672746825:=tz
def tw14354098023230962519:=tz
def tw9557860397777787044:=tz
def tw3898041855852263265:=tz
def tw7828230599941251837:=tz
def tw14997028085618341439:=tz
def tw13209703362897055314:=tz
def tw10391674715997257538:=tz
def tw17542634336193527884:=tz
def tw9477192456647986575:=tz
def tw1710463864855872597:=tz
def tw266950036146394112:=tz
def tw12916657504226731740:=tz
def tw2362642014764871138:=tz
def tw8938217126950283811:=tz
def tw1162496472471580947:=tz
def tw7152714503028481022:=tz
def tw10868882790708222434:=tz
def tw1956594881215338034:=tz
def tw9939394621880073354:=tz
def tw5130368743647169146:=tz
def tw5704904306156905862:=tz
def tw13599726407340836834:=tz
def tw9921528716854137360:=tz
def tw1054702119450275118:=tz
def tw7188608022515942983:=tz
def tw8780067427412391121:=tz
def tw8981920692741679535:=tz
def tw13546321600032296481:=tz
def tw9707014144921688892:=tz
def tw1754226772324676095:=tz
def tw4288258158620786289:=tz
def tw9880516864137015880:=tz
def tw4437914969579505003:=tz
def tw14321684251047366481:=tz
def tw4757037633818131436:=tz
def tw14331118158537595858:=tz
def tw12449531476045349601:=tz
def tw2118787330787359532:=tz
def tw2092548978606834766:=tz
def tw15218904472725393259:=tz
def tw1247550869878563010:=tz
def tw9344036738349725670:=tz
def tw10309523404402011228:=tz
def tw10253621267697359345:=tz
def tw10459958351642602451:=tz
def tw187378771608335835:=tz
def tw18174456038930211191:=tz
def tw17079774771002247809:=tz
def tw3977799221074311618:=tz
def tw14700549757762529590:=tz
def tw10144021256183354846:=tz
def tw10810100818997726957:=tz
def tw13846445413216297600:=tz
def tw5714371700643813396:=tz
def tw6003029337101748770:=tz
def tw3198270925486255793:=tz
def tw7171710679598314463:=tz
def tw16514713377694508715:=tz
def tw16371360736927180352:=tz
def tw10305690998669632772:=tz
def tw3778181429449675904:=tz
def tw12638509294642212748:=tz
def tw11018974744236791571:=tz
def tw4573547397534684840:=tz
def tw3318360070272276436:=tz
def tw18240333342174972861:=tz
def tw11073731249648399504:=tz
def tw1339181199745285178:=tz
def tw177284657794435234:=tz
def tw12740101953884327950:=tz
def tw12986618091761207371:=tz
def tw17448540681735421734:=tz
def tw16885538085639936248:=tz
def tw16679864125282299154:=tz
def tw4708936625801689923:=tz
def tw14130787252158066725:=tz
def tw9263475819659609304:=tz
def tw15335213563932836068:=tz
def tw2051203966832345744:=tz
def tw4282278346424492609:=tz
def tw3955519996662238825:=tz
def tw13443193296844617438:=tz
def tw3932376892400771458:=tz
def tw10340016354454079386:=tz
def tw5823308134641974436:=tz
def tw10853718805611033367:=tz
def tw12777209615673139470:=tz
def tw619309591079946338:=tz
def tw8460567414884838320:=tz
def tw16832718941727074214:=tz
def tw4100979443443431009:=tz
def tw15865689035463198325:=tz
def tw9575841420689845677:=tz
def tw3895125201936905482:=tz
def tw16239975088609902182:=tz
def tw9115145798180760882:=tz
def tw16810603730094840477:=tz
def tw9943366619048250543:=tz
def tw10073779425847455158:=tz
def tw2220683717449078115:=tz
def tw9789858641573711663:=tz
def tw15589307488319165320:=tz
def tw15268932563772530823:=tz
def tw8450213728506699831:=tz
def tw9669893167194406522:=tz
def tw6514074769672809847:=tz
def tw15020314896822562638:=tz
def tw15522519326283890327:=tz
def tw9676915511537075551:=tz
def tw2287870051128582405:=tz
def tw10932677363642861205:=tz
def tw3855895073621748711:=tz
def tw11869610204329355217:=tz
def tw7348047268901860784:=tz
def tw9238551511364222718:=tz
def tw2606649635033067048:=tz
def tw5731032151040773930:=tz
def tw1886806100270122556:=tz
def tw5831246688546838708:=tz
def tw15946658066881688306:=tz
def tw17830263445520316197:=tz
def tw11477141005215550927:=tz
def tw11035214039528605471:=tz
def tw6072615378851358725:=tz
def tw5509528551634517848:=tz
def tw14095843596410279999:=tz
def tw10415575756133089030:=tz
def tw7694555368579875971:=tz
def tw1885402059888803414:=tz
def tw18145599607096233160:=tz
def tw6771061796345675239:=tz
def tw6736187700367710951:=tz
def tw7965881360823270122:=tz
def tw43459469025206667:=tz
def tw6580724629071803191:=tz
def tw17970092977690425237:=tz
def tw9962172015775280875:=tz
def tw9053628771363120921:=tz
def tw18435769769485285536:=tz
def tw12983016633010631040:=tz
def tw8043675406828078807:=tz
def tw5221391887404831934:=tz
def tw2080967944779160058:=tz
def tw11142588608069639810:=tz
def tw5648960560750122829:=tz
def tw14338820133028917937:=tz
def tw8629085582862617324:=tz
def tw3697407383784382343:=tz
def tw812088863052469929:=tz
def tw5939433097861017945:=tz
def tw15560827624953311580:=tz
def tw15641413606540267695:=tz
def tw11364528626369485181:=tz
def tw3708488273097589746:=tz
def tw853194677529479440:=tz
def tw12982877795567299705:=tz
def tw9157612615554561018:=tz
def tw7289571464235193458:=tz
def tw9580658563684666258:=tz
def tw9220770332748066927:=tz
def tw13982298107730720569:=tz
def tw6416410671970681551:=tz
def tw8763614064999452304:=tz
def tw1322028985732130092:=tz
def tw18007681886481480745:=tz
def tw2658037212943340970:=tz
def tw2406107126552804868:=tz
def tw13420703685153673436:=tz
def tw9877961213417271905:=tz
def tw18249628818569946791:=tz
def tw8418614995870756492:=tz
def tw11128133867995779917:=tz
def tw1676308909482658161:=tz
def tw14857638493532688520:=tz
def tw2068413872022159415:=tz
def tw13360188665328962109:=tz
def tw6988152269760289422:=tz
def tw8547626919069443071:=tz
def tw12116950623619597522:=tz
def tw15792191663325881608:=tz
def tw14366633970092966017:=tz
def tw14036200427359942065:=tz
def tw906170663581334985:=tz
def tw15859704635810207462:=tz
def tw2837039921596536318:=tz
def tw1801453737021884559:=tz
def tw8954335996511434420:=tz
def tw14452030987226872702:=tz
def tw9339113353382277781:=tz
def tw8282282624567005875:=tz
def tw17400283134236868292:=tz
def tw108181450363492866:=tz
def tw14885155872925742290:=tz
def tw13974287135737783353:=tz
def tw17818648207102229831:=tz
def tw14164894563937833432:=tz
def tw12334811174958336133:=tz
def tw16029302299823713643:=tz
def tw7838081137951753306:=tz
def tw7671528281390325058:=tz
def tw15415862736947118067:=tz
def tw11417219496454723404:=tz
def tw12886379970864377538:=tz
def tw7342654572319329635:=tz
def tw7588570003670771910:=tz
def tw10263855136684651483:=tz
def tw12664709651527825413:=tz
def tw18264433247131572424:=tz
def tw10722594770117312542:=tz
def tw3477824906373158292:=tz
def tw5752988116093498088:=tz
def tw5987584805231289321:=tz
def tw13972591132309733294:=tz
def tw5024766258911201777:=tz
def tw4315811750442306011:=tz
end PySem.W.Fast
set_option Elab.async false
set_option linter.all false
set_option maxRecDepth 100000
section
namespace _L
open PySem PySem.Spec PyProof.Rows
abbrev Key:=Sum Int Str
theorem Kd a b:decide ((OW a:Key)=OW b)=(a == b):=by
 by_cases e:a=b
 . subst e;simp
 . simp_all
theorem Ke a b:decide ((V1 a:Key)=V1 b)=decide (a=b):=by
 simp_all
theorem KQ(a:Int)(b:Str):decide ((OW a)=V1 b)=false:=decide_eq_false (λq=>by cases q)
theorem JL(a:Str)(b:Int):decide ((V1 a)=OW b)=false:=decide_eq_false (λq=>by cases q)
section
variable{P:SP}{w:Tp}{h h':SM}{a:Sl}
theorem Paired.zB: ∀{l₁ l₂},UX F l₁ l₂ ->(∀ a b,F a b->G a b)->UX G l₁ l₂ :=by
 intro l₁ l₂ h0
 induction h0 with
 | nil=>exact λ_=> .nil
 | cons r t ih=>exact λf=> .cons (f _ _ r) (ih f)
end
def Qa(sc:XG) x:=sc.names.lookup x=fI .local\/sc.names.lookup x=fI .cell\/sc.names.lookup x=fI .free
def Loc(sc:XG) x:=sc.names.lookup x=fI .local\/sc.names.lookup x=fI .cell
section
variable{pins:List (Sl × Obj)}{s:R8}{h':SM}
theorem x8{N:List Str}(hN:N.Nodup){ j:Nat}(a:N[i]?=fI x)(b:N[j]?=fI x):i=j:=by
 obtain⟨h1,e1⟩:=RY.mp a;obtain⟨h2,e2⟩:=RY.mp b;exact(Yn hN).mp (e1.trans e2.symm)
end
section
variable{a b c:Tr}{pos:Pos}
def Oi i j:=(-(2 ^ 64) < i/\i < 2 ^ 64)\/(-(2 ^ 64) < j/\j < 2 ^ 64)
theorem Oi.ok(h:Oi i j):IntMulOk i j:=by
 rcases h with⟨h1,h2⟩ | ⟨h1,h2⟩
 . exact .of_left (XT h1 h2)
 . exact .of_right (XT h1 h2)
end
section
variable{a b c:Tr}{pos:Pos}
theorem nR:(sizeLine) < 2 ^ 63:=by decide
end
structure vk(N P:List Str)(sc:XG):Prop where
 kind:sc.kind= .function
 co:sc.isCoroutine=false
 gen:sc.isGenerator=false
 nd:N.Nodup
 pre:N.take P.length=P
 par: ∀ x∈P,sc.names.lookup x=fI .local\/sc.names.lookup x=fI .cell
 Ni: ∀ y∈sc.names,y.2≠ .free
end _L
namespace _H
open PySem PyProof.Rows
section
variable{prog:SP}{w:Tp}{A:TP}{E:RZ->R8->Prop}{s:R8}
noncomputable def jl(n d:Nat):Option Int->Nat
 | none=>d
 | some v=>if v < 0 then(v+(n)).toNat else min v.toNat n
theorem wj n d:jl n d ox=d:=rfl
theorem pM(n d k:Nat):jl n d (fI (k))=min k n:=by
 rfl
theorem Aj v (n d:Nat):(if v < 0 then max (v+(n:Int)) 0 else min v (n))=((jl n d (fI v))):=by
 show(if v < 0 then max _ 0 else min v (n))=(((if v < 0 then(v+(n)).toNat else min _ n)))
 by_cases hv:v < 0
 . simp_all
 . grind
theorem y9 lo hi (n:Nat):Xz lo hi 1 (n)=(((jl n 0 lo):Int),((jl n n hi):Int)):=by
 refine vO ?_ ?_
 . cases lo with
   | none=>rfl
   | some v=>exact Aj v n 0
 . cases hi with
   | none=>rfl
   | some v=>exact Aj v n n
theorem yj(i j:Nat):VO (i) (j) 1=j - i:=by
 unfold VO;have h1:(1:Int) > 0:=by lia
 simp only[h1,if_true,Int.ediv_one];split<;>lia
end
end _H
namespace _L
open PySem PySem.Spec PyProof.Rows
noncomputable def uQ(n:Nat)(i:Int):=if 0<=i then(if i < n then fI i.toNat else ox) else if -(n)<=i then fI (i+n).toNat else ox
noncomputable def fK{α :Type}(xs:List α) i:=(uQ xs.length i).bind λj=>xs[j]?
theorem AE(h:uQ n i=fI j):seqIndex? i n=fI j/\j < n/\ -(n)<=i/\i < n:=by
 unfold uQ at h;by_cases h0:0<=i
 . rw[if_pos h0] at h;by_cases h1:i < n
   . rw[if_pos h1] at h;have e:=SY h;exact⟨by rw[EO h0 h1,e],by lia,by lia,h1⟩
   . simp_all
 . rw[if_neg h0] at h;by_cases h1: -(n)<=i
   . rw[if_pos h1] at h;have e:=SY h;exact⟨by rw[Cs (by lia) h1,e],by lia,h1,by lia⟩
   . simp_all
theorem Ax(h:fK xs i=fI v): ∃ j,seqIndex? i xs.length=fI j/\xs[j]?=fI v/\j < xs.length/\ -(xs.length)<=i/\i < xs.length:=by
 unfold fK at h;cases e:uQ xs.length i with
 | none=>simp_all
 | some j =>
  rw[e] at h
  obtain⟨h1,h2,h3,h4⟩:=AE e
  exact⟨j,h1,h,h2,h3,h4⟩
section
variable{a b:Tr}{pos:Pos}
theorem uH lo hi n:(XH lo hi ox n).1=((_H.jl n 0 lo))/\(XH lo hi ox n).2.1=((_H.jl n n hi))/\(XH lo hi ox n).2.2=1:=by
 refine⟨?_,?_,rfl⟩
 . cases lo with
   | none=>rfl
   | some i =>
    simp only[XH,_H.jl,Dj,show(1:Int) > 0 by decide,if_true]
    by_cases h:i < 0
    . simp only[h,if_true]<;>lia
    . simp only[h,if_false]<;>lia
 . cases hi with
   | none=>rfl
   | some i =>
    simp only[XH,_H.jl,Dj,show(1:Int) > 0 by decide,if_true]
    by_cases h:i < 0
    . simp only[h,if_true]<;>lia
    . simp only[h,if_false]<;>lia
variable{o e:Tr}{es:List Tr}{name:Str}{apos cpos:Pos}{T id:String}
end
theorem tK{α :Type}: ∀(l:List α) i,(l.eraseIdx i).length<=l.length
 | [],_=>Si _
 | _::_,0=>WN _
 | _::r,i+1=>WD (tK r i)
section
variable{pins:List (Sl × Obj)}{s:R8}{l b:Sl}
theorem CN(h:n<=sizeLine):XU n=false:=by
 exact decide_eq_false (by lia)
end
section
theorem len_rep{α :Type}(xs:List α) k:(Sz k xs).flatten.length=k*xs.length:=by
 simp_all
end
end _L
open PySem PySem.W PyProof.Rows
namespace _L
open PySem PySem.Spec PyProof.Rows
end _L
namespace _L
open PySem PySem.Spec PyProof.Rows
end _L
namespace _L
open PySem PySem.Spec PyProof.Rows
noncomputable def mask(n:Str):Str:=⟨n.cps.push 0⟩
noncomputable def mW(sc fn:List (Str × Wh))(N vars:List Str) :=
 sc.all (λp=>(p.2 != .cell||sc.lookup p.1 == fI .cell)&&(p.2 != .free||(fn.lookup p.1 == fI .cell||fn.lookup p.1 == fI .free))&&(p.2 != .local||sc.lookup p.1 == fI .local)) &&
 N.all (λn=>vars.contains n||(sc.lookup n !=fI .local&&sc.lookup n !=fI .cell))&&vars.all (λv=>sc.lookup (mask v) == ox)
noncomputable def lE(N vars:List Str):=N.map (λn=>if vars.contains n then mask n else n)++vars
theorem kW(f:Str->Wh->Wh) x: ∀ names:List (Str × Wh),(names.map λp=>(p.1,f p.1 p.2)).lookup x=(names.lookup x).map (f x)
 | []=>rfl
 | p::r=>by
  have ih:=kW f x r;rw[R9,UM,UM,ih];cases q:x == p.1 with
  | true=>simp_all
  | false=>rfl
theorem lookup_mem{β :Type}{c}: ∀{l:List (Str × β)},l.lookup x=fI c->(x,c)∈l
 | [],h=>by simp at h
 | p::r,h=>by
  rw[UM] at h;cases q:x == p.1 with
  | true =>
   rw[q] at h
   obtain rfl:x=p.1:=by simpa using q
   obtain rfl:p.2=c:=by simpa using h
   exact So
  | false=>rw[q] at h;exact Sk _ (lookup_mem h)
theorem gR{β :Type}{c}: ∀{l:List (Str × β)},(x,c)∈l-> ∃ d,l.lookup x=fI d
 | [],h=>by cases h
 | (n,k)::r,h=>by
  cases hx:x == n with
  | true=>exact⟨k,by simp only[UM,hx]⟩
  | false =>
   have h':(x,c)∈r:=by
    simp_all
   obtain⟨d,q⟩:=gR h'
   exact⟨d,by simp only[UM,hx];exact q⟩
theorem yZ{lo:Nat}: ∀ names(n:Nat)(acc:List (Str × Sl)),(∀ x y c,acc.lookup x=fI c->acc.lookup y=fI c->lo<=c->x=y)->(∀ x c,acc.lookup x=fI c->c < n) ->
  ∀ x y c,(U0 n names acc).lookup x=fI c->(U0 n names acc).lookup y=fI c->lo<=c->x=y
 | [],_,_,h,_=>h
 | (name,kind)::r,n,acc,h,hn=>by
  unfold U0;split
  . have at_: ∀ z d,((name,n)::acc).lookup z=fI d->(z=name/\d=n)\/acc.lookup z=fI d:=λz d e=>by
     rw[UM] at e;cases hz:z == name with
     | true=>simp_all
     | false=>rw[hz] at e;exact .inr e
    refine yZ r _ _ (λx y c e1 e2 hl=>?_) λx c e=>?_
    . rcases at_ x c e1 with⟨a,b⟩ | a<;>rcases at_ y c e2 with⟨a',b'⟩ | a'
      . rw[a,a']
      . exact absurd (hn y c a') (by rw[b];exact TF _)
      . exact absurd (hn x c a) (by rw[b'];exact TF _)
      . exact h x y c a a' hl
    . rcases at_ x c e with⟨_,b⟩ | a
      . simp_all
      . exact Uc (hn x c a)
  . exact yZ r n acc h hn
end _L
namespace _L
open PySem PySem.Spec PyProof.Rows
end _L
namespace _L
open PySem PySem.Spec PyProof.Rows
end _L
namespace _L
theorem RH{ B:Prop}[Decidable c](hc: ¬ c)(h:B):if c then A else B:=by simp_all
end _L
namespace _L
open PySem PySem.Spec PyProof.Rows
end _L
namespace _L
open PySem PySem.Spec PyProof.Rows
noncomputable def yd{α}(c:Nat->Nat->Bool):KasT α -> α
 | .ret a=>a
 | .ask i j k=>yd c (k (c i j))
noncomputable def CG{α}(n:Nat)(c:Nat->Nat->Bool):KasT α ->Bool
 | .ret _=>true
 | .ask i j k=>decide (i < n)&&decide (j < n)&& !decide (i=j)&&CG n c (k (c i j))
def iA{α} n c t (Q: α ->Prop):=CG n c t=true/\Q (yd c t)
theorem iA.ret{α :Type}{n:Nat}{c:Nat->Nat->Bool}{a: α}{Q: α ->Prop}(h:Q a):iA n c (.ret a) Q:=⟨rfl,h⟩
theorem iA.ask{α :Type}{n:Nat}{c:Nat->Nat->Bool}{i j:Nat}{k:Bool->KasT α}{Q: α ->Prop}(hi:i < n)(hj:j < n)(hij:i≠j)(h:iA n c (k (c i j)) Q):iA n c (.ask i j k) Q :=
 ⟨by simp only[CG,hi,hj,hij,h.1,decide_true,decide_false,Bool.not_false,VS],h.2⟩
theorem iA.bind: ∀{t},iA n c t (λa=>iA n c (f a) Q)->iA n c (t.bind f) Q
 | .ret a,h=>h.2
 | .ask i j k,h=>by
  have e:=h.1;simp only[CG,Sr,decide_eq_true_eq,Tt,decide_eq_false_iff_not] at e;exact iA.ask e.1.1.1 e.1.1.2 e.1.2 (iA.bind (t:=k (c i j)) ⟨e.2,h.2⟩)
theorem iA.mono(h:iA n c t Q)(f: ∀ a,Q a->Q' a):iA n c t Q':=⟨h.1,f _ h.2⟩
structure gU(n:Nat)(p:Array Nat):Prop where
 perm:p.toList.Perm (S6 n)
theorem gU.size(h:gU n p):p.size=n:=by simpa using h.perm.length_eq
theorem gU.lt(h:gU n p)(hi:i < n):p.getD i 0 < n:=by
 have hi':=h.size ▸ hi;have:p.getD i 0∈p.toList:=by
  simp_all
 exact UO.mp (h.perm.mem_iff.mp this)
theorem gU.ne(h:gU n p)(hi:i < n)(hj:j < n)(hij:i≠j):p.getD i 0≠p.getD j 0:=λe=>by
 have hi':=h.size ▸ hi;have hj':=h.size ▸ hj;have nd:=h.perm.nodup_iff.mpr List.nodup_range;exact hij ((XI (by omega) nd).mp (by simp_all))
theorem gU.of(h:gU n p)(pm:q.Perm p):gU n q:=⟨(Array.perm_iff_toList_perm.mp pm).trans h.perm⟩
theorem yM n:gU n (List.toArray (S6 n)):=⟨Zk _⟩
section
variable{n:Nat}{r:Nat->Nat}
noncomputable def rk(r:Nat->Nat)(p:Array Nat) i:=r (p.getD i 0)
def sN r p k:= ∀ i j,i < j->j < k->rk r p i < rk r p j
def rH r p k:= ∀ i j,i < j->j < k->rk r p j < rk r p i
noncomputable def cN(r:Nat->Nat) i j:=decide (r i < r j)
def sV n (r:Nat->Nat):= ∀ i j,i < n->j < n->r i=r j->i=j
theorem DX(hr:sV n r)(h:gU n p)(hi:i < n)(hj:j < n)(hij:i≠j):rk r p i≠rk r p j:=λe=>h.ne hi hj hij (hr _ _ (h.lt hi) (h.lt hj) e)
theorem II(h:sN r p k)(hk:1<=k)(x:rk r p (k - 1) < rk r p k):sN r p (k+1):=λi j hij hj=>by
 rcases TJ j k with c | c
 . exact h i j hij c
 . have:j=k:=by omega
   subst this;rcases TJ i (j - 1) with d | d
   . exact U2 (h i (j - 1) d (by omega)) x
   . grind
theorem tw(h:rH r p k)(hk:1<=k)(x:rk r p k < rk r p (k - 1)):rH r p (k+1):=λi j hij hj=>by
 rcases TJ j k with c | c
 . exact h i j hij c
 . have:j=k:=by omega
   subst this;rcases TJ i (j - 1) with d | d
   . exact U2 x (h i (j - 1) d (by omega))
   . grind
theorem yE(hr:sV n r)(h:gU n p): ∀ f m,1<=m->m+f<=n->sN r p m ->
  iA n (cN r) (kas_asc p f m) λm'=>m<=m'/\m'<=m+f/\sN r p m'/\(m' < m+f->rk r p m' < rk r p (m' - 1))
 | 0,m,h1,hm,u=>iA.ret ⟨Si _,Si _,u,λx=>absurd x (TF _)⟩
 | f+1,m,h1,hm,u=>by
  refine iA.ask (h.lt (by omega)) (h.lt (by omega)) (h.ne (by omega) (by omega) (by omega)) ?_;have ne:=DX hr h (i:=m) (j:=m - 1) (by omega) (by omega) (by omega);by_cases c:rk r p m < rk r p (m - 1)
  . have e:cN r (p.getD m 0) (p.getD (m - 1) 0)=true:=decide_eq_true c;rw[e];exact iA.ret ⟨Si _,by omega,u,λ_=>c⟩
  . have e:cN r (p.getD m 0) (p.getD (m - 1) 0)=false:=decide_eq_false c;rw[e];refine(yE hr h f (m+1) (by omega) (by omega) (II u h1 (by omega))).mono λm' x=>⟨by omega,by omega,x.2.2.1,λy=>x.2.2.2 (by omega)⟩
theorem Ag(hr:sV n r)(h:gU n p): ∀ f m,1<=m->m+f<=n->rH r p m ->
  iA n (cN r) (kas_desc f p m 0) λt=>t.1=p/\t.2.2=0/\m<=t.2.1/\t.2.1<=m+f/\rH r p t.2.1
 | 0,m,h1,hm,u=>iA.ret ⟨rfl,rfl,Si _,Si _,u⟩
 | f+1,m,h1,hm,u=>by
  refine iA.ask (h.lt (by omega)) (h.lt (by omega)) (h.ne (by omega) (by omega) (by omega)) ?_;have ne:=DX hr h (i:=m) (j:=m - 1) (by omega) (by omega) (by omega);by_cases c:rk r p m < rk r p (m - 1)
  . have e:cN r (p.getD m 0) (p.getD (m - 1) 0)=true:=decide_eq_true c;rw[e,if_pos rfl];refine(Ag hr h f (m+1) (by omega) (by omega) (tw u h1 c)).mono λt x=>⟨x.1,x.2.1,by omega,by omega,x.2.2.2.2⟩
  . have e:cN r (p.getD m 0) (p.getD (m - 1) 0)=false:=decide_eq_false c;rw[e];refine iA.ask (h.lt (by omega)) (h.lt (by omega)) (h.ne (by omega) (by omega) (by omega)) ?_;have e2:cN r (p.getD (m - 1) 0) (p.getD m 0)=true:=decide_eq_true (show rk r p (m - 1) < rk r p m by omega);rw[e2];exact iA.ret ⟨rfl,rfl,Si _,VL _ _,u⟩
theorem Dw(hm:m<=p.size) k:rk r (kas_rev p 0 m) k=if k < m then rk r p (m - 1 - k) else rk r p k:=by
 unfold rk kas_rev;rw[Up,getElem?_mirror_all hm];by_cases c:k < m
 . simp_all
 . rw[if_neg (λx=>c x.2),if_neg c,Up]
theorem DJ(hr:sV n r)(h:gU n p)(h1:1<=m)(hm:m<=n)(u:rH r p m):iA n (cN r) (kas_tail3 m n p) λt=>gU n t.2/\1<=t.1/\t.1<=n/\sN r t.2 t.1:=by
 have h':gU n (kas_rev p 0 m):=h.of (mirror_perm _ _ _ _);refine iA.bind ((yE hr h' (n - m) m h1 (by omega) λi j hij hj=>?_).mono λm' x=>iA.ret ⟨h',by omega,by omega,x.2.2.1⟩);rw[Dw (by rw[h.size];exact hm),Dw (by rw[h.size];exact hm),if_pos (by omega),if_pos hj];exact u _ _ (by omega) (by omega)
theorem D4(hr:sV n r)(h:gU n p)(h1:1<=n):iA n (cN r) (kas_count n p) λt=>gU n t.2/\1<=t.1/\t.1<=n/\sN r t.2 t.1:=by
 refine iA.bind ((yE hr h (n - 1) 1 (Si _) (by omega) λi j hij hj=>by omega).mono λm x=>?_);obtain⟨x1,x2,x3,x4⟩:=x;by_cases c:m=n
 . rw[if_pos (by simpa using c)];exact iA.ret ⟨h,x1,by omega,x3⟩
 . rw[if_neg (by simpa using c)];by_cases c2:m > 1
   . rw[if_pos c2];refine iA.ask (h.lt (by omega)) (h.lt (by omega)) (h.ne (by omega) (by omega) (by omega)) ?_;have e2:cN r (p.getD 0 0) (p.getD (m - 1) 0)=true:=decide_eq_true (x3 0 (m - 1) (by omega) (by omega));rw[e2];exact iA.ret ⟨h,x1,by omega,x3⟩
   . have:m=1:=by omega
     subst this;refine iA.bind ((Ag hr h (n - (1+1)) (1+1) (by omega) (by omega) (tw (λi j hij hj=>by omega) (Si _) (x4 (by omega)))).mono λt y=>?_);obtain⟨y1,y2,y3,y4,y5⟩:=y;rw[if_neg (by omega),y1];exact DJ hr h (by omega) (by omega) y5
theorem rO(hr:sV n r)(h:gU n p)(hk:k < n)(u:sN r p k): ∀ f l m,l<=m->m<=k->m - l<=f->(∀ i,i < l->rk r p i < rk r p k)->(∀ i,m<=i->i < k->rk r p k < rk r p i) ->
  iA n (cN r) (kas_place p k f l m) λt=>t<=k/\(∀ i,i < t->rk r p i < rk r p k)/\(∀ i,t<=i->i < k->rk r p k < rk r p i)
 | 0,l,m,h1,h2,h3,a,b=>iA.ret ⟨by omega,a,λi hi hik=>b i (by omega) hik⟩
 | f+1,l,m,h1,h2,h3,a,b=>by
  unfold kas_place;by_cases c:l ≥ m
  . rw[if_pos c];exact iA.ret ⟨by omega,a,λi hi hik=>b i (by omega) hik⟩
  . rw[if_neg c];refine iA.ask (h.lt (by omega)) (h.lt (by omega)) (h.ne (by omega) (by omega) (by omega)) ?_;have ne:=DX hr h (i:=k) (j:=(l+m) / 2) (by omega) (by omega) (by omega);by_cases d:rk r p k < rk r p ((l+m) / 2)
    . have e:cN r (p.getD k 0) (p.getD ((l+m) / 2) 0)=true:=decide_eq_true d;rw[e];refine rO hr h hk u f l ((l+m) / 2) (by omega) (by omega) (by omega) a λi hi hik=>?_;rcases TJ ((l+m) / 2) i with z | z
      . exact U2 d (u _ _ z hik)
      . grind
    . have e:cN r (p.getD k 0) (p.getD ((l+m) / 2) 0)=false:=decide_eq_false d;rw[e];refine rO hr h hk u f ((l+m) / 2+1) m (by omega) (by omega) (by omega) (λi hi=>?_) b;have d':rk r p ((l+m) / 2) < rk r p k:=by omega
      rcases TJ i ((l+m) / 2) with z | z
      . exact U2 (u _ _ z (by omega)) d'
      . grind
theorem tV(hk:k < p.size)(hd:d<=k) i:rk r (bubble p k d) i=if i=k - d then rk r p k else if k - d < i/\i<=k then rk r p (i - 1) else rk r p i:=by
 have g: ∀(q:Array Nat)(j:Nat),rk r q j=r (q[j]?.getD 0):=λq j=>by unfold rk;rw[Up]
 rw[g,g,g,g,getElem?_bubble hk d hd]
 repeat' split
 all_goals rfl
theorem Fz(hr:sV n r): ∀ f p k,gU n p->k+f=n->sN r p k->iA n (cN r) (kas_bin f p k) λq=>gU n q/\sN r q n
 | 0,p,k,h,e,u=>iA.ret ⟨h,(show k=n from e) ▸ u⟩
 | f+1,p,k,h,e,u=>by
  refine iA.bind ((rO hr h (by omega) u k 0 k (by omega) (by omega) (by omega) (λi hi=>by omega) (λi h1 h2=>by omega)).mono λl x=>?_);obtain⟨x1,x2,x3⟩:=x;refine Fz hr f _ (k+1) (h.of (bubble_perm _ _ _)) (by omega) λi j hij hj=>?_;have hs:k < p.size:=by rw[h.size];omega
  rw[tV hs (by omega),tV hs (by omega)]
  repeat' split
  all_goals first | (exfalso;omega) | exact u _ _ (by omega) (by omega) | exact x2 _ (by omega) | exact x3 _ (by omega) (by omega)
theorem AP(hr:sV n r)(h1:1<=n):iA n (cN r) (UP n) λq=>gU n q/\sN r q n:=by
 refine iA.bind ((D4 hr (yM n) h1).mono λt x=>?_);obtain⟨x1,x2,x3,x4⟩:=x;by_cases c:t.1 < n
 . rw[if_pos c];have:max t.1 1=t.1:=by omega
   rw[this];exact Fz hr _ _ _ x1 (by omega) x4
 . rw[if_neg c];have:t.1=n:=by omega
   exact iA.ret ⟨x1,this ▸ x4⟩
end
theorem rQ(h: ∀ i j,i < n->j < n->c i j=c' i j): ∀ t:KasT α,CG n c' t=true->CG n c t=true/\yd c t=yd c' t
 | .ret a,_=>⟨rfl,rfl⟩
 | .ask i j k,e=>by
  simp only[CG,Sr,decide_eq_true_eq,Tt,decide_eq_false_iff_not] at e;have hc:=h i j e.1.1.1 e.1.1.2;have:=rQ h (k (c' i j)) e.2;simp only[CG,yd,Sr,decide_eq_true_eq,Tt,decide_eq_false_iff_not];rw[hc];exact⟨⟨e.1,this.1⟩,this.2⟩
def kE(a b:Str):=a.cps.toList < b.cps.toList
instance (a b:Str):Decidable (kE a b):=inferInstanceAs (Decidable (a.cps.toList < b.cps.toList))
theorem lI a: ¬ kE a a:=List.lt_irrefl _
theorem kf(h1:kE a b)(h2:kE b c):kE a c:=List.lt_trans h1 h2
theorem tY(h:kE a b): ¬ kE b a:=λz=>lI a (kf h z)
theorem aa3{ b:Str}(h:a.cps.toList=b.cps.toList):a=b:=by
 cases a;simp only at h;rw[Pw.mp h]
theorem nU(h:a≠b):kE a b\/kE b a:=by
 by_cases h1:kE a b
 . exact .inl h1
 . by_cases h2:kE b a
   . exact .inr h2
   . exact absurd (aa3 (List.le_antisymm (List.not_lt.mp h2) (List.not_lt.mp h1))) h
noncomputable def m5(xs:List Str) x:=(xs.filter λy=>decide (kE y x)).length
theorem tQ(hx:x∈xs)(h:kE x y):m5 xs x < m5 xs y:=by
 unfold m5;have sub: ∀ l:List Str,(l.filter λz=>decide (kE z x)).length<=(l.filter λz=>decide (kE z y)).length:=λl=>by
  induction l with
  | nil=>exact Si _
  | cons z r ih =>
   by_cases h1:kE z x
   . rw[SJ (by simpa using h1),SJ (by simpa using kf h1 h)];simpa using ih
   . rw[SR (by simpa using h1)];by_cases h2:kE z y
     . rw[SJ (by simpa using h2)];exact U3 ih
     . rw[SR (by simpa using h2)];exact ih
 induction xs with
 | nil=>cases hx
 | cons z r ih =>
  rcases Sd.mp hx with rfl | hr
  . rw[SR (by simpa using lI x),SJ (by simpa using h)];exact BQ (sub r)
  . by_cases h1:kE z x
    . rw[SJ (by simpa using h1),SJ (by simpa using kf h1 h)];simpa using ih hr
    . rw[SR (by simpa using h1)];by_cases h2:kE z y
      . rw[SJ (by simpa using h2)];exact Uc (ih hr)
      . rw[SR (by simpa using h2)];exact ih hr
theorem C9(hx:x∈xs)(hy:y∈xs):m5 xs x < m5 xs y↔kE x y:=by
 refine⟨λh=>?_,tQ hx⟩;by_cases e:x=y
 . simp_all
 . rcases nU e with z | z
   . exact z
   . exact absurd (tQ hy z) (Nat.lt_asymm h)
noncomputable def cS(xs:List Str) i j:=decide (kE (xs.getD i "") (xs.getD j ""))
theorem getD_mem{xs:List Str}(h:i < xs.length):xs.getD i "" ∈xs:=by
 simp_all
theorem x6(h1:1<=xs.length)(nd:xs.Nodup) :
  CG xs.length (cS xs) (UP xs.length)=true/\(yd (cS xs) (UP xs.length)).toList.Perm (S6 xs.length)/\((yd (cS xs) (UP xs.length)).toList.map λi=>xs.getD i "").Pairwise kE:=by
 have rkI: ∀ i j,i < xs.length->j < xs.length->(m5 xs (xs.getD i "") < m5 xs (xs.getD j "")↔kE (xs.getD i "") (xs.getD j "")):=λi j hi hj=>C9 (getD_mem hi) (getD_mem hj);have hr:sV xs.length λi=>m5 xs (xs.getD i ""):=λi j hi hj e=>by
  have a:=rkI i j hi hj;have b:=rkI j i hj hi;have e':=XA λne=>by
   rcases nU ne with z | z
   . have:=a.mpr z;simp only at e;omega
   . grind
  rw[SI,SI,R6 hi,R6 hj] at e';exact(XI hi nd).mp (by rw[R6 hi,R6 hj];exact congrArg fI e')
 have ok:=AP hr h1;have al: ∀ i j,i < xs.length->j < xs.length->cS xs i j=cN (λi=>m5 xs (xs.getD i "")) i j:=λi j hi hj=>by
  unfold cS cN;rw[decide_eq_decide];exact(rkI i j hi hj).symm
 have ea:=rQ al (UP xs.length) ok.1;rw[ea.2];have sh:=ok.2.1;refine⟨ea.1,sh.perm,?_⟩;rw[VB,XB];intro i j hi hj hij;have hj':j < xs.length:=by rw[<- sh.size];simpa using hj
 have:=ok.2.2 i j hij hj';have:=(rkI _ _ (sh.lt (by omega)) (sh.lt hj')).mp this;rw[Up,Up,Uv (by omega),Uv (by omega)] at this;simpa using this
theorem t8{α :Type} l (d: α):(S6 l.length).map (λi=>l.getD i d)=l:=by
 refine XJ λi=>?_;rw[Sq];by_cases h:i < l.length
 . simp[h]
 . simp_all
end _L
namespace _P
open PySem PySem.Spec PyProof.Rows _L
inductive PV where
 | non | bl (b:Bool) | int (i:Int) | str (x:Str) | tup (xs:List PV) | ktup (xs:List PV) | ref (n:Nat) | ty (n:String)
mutual
noncomputable def PV.beq:PV->PV->Bool
 | .non,.non=>true
 | .bl a,.bl b=>decide (a=b)
 | .int a,.int b=>decide (a=b)
 | .str a,.str b=>decide (a=b)
 | .tup a,.tup b=>PV.GY a b
 | .ktup a,.ktup b=>PV.GY a b
 | .ref a,.ref b=>decide (a=b)
 | .ty a,.ty b=>decide (a=b)
 | _,_=>false
noncomputable def PV.GY:List PV->List PV->Bool
 | [],[]=>true
 | a::x,b::y=>PV.beq a b&&PV.GY x y
 | _,_=>false
end
theorem ib(h: ¬ p):false=true↔p:=⟨λe=>(by cases e),λe=>absurd e h⟩
mutual
theorem PV.beq_iff: ∀(a b:PV),PV.beq a b=true↔a=b
 | .non,b=>by cases b<;>first | exact iff_of_true rfl rfl | exact ib (by intro e;cases e)
 | .bl _,b=>by cases b<;>first | exact decide_eq_true_iff.trans (by simp) | exact ib (by intro e;cases e)
 | .int _,b=>by cases b<;>first | exact decide_eq_true_iff.trans (by simp) | exact ib (by intro e;cases e)
 | .str _,b=>by cases b<;>first | exact decide_eq_true_iff.trans (by simp) | exact ib (by intro e;cases e)
 | .ref _,b=>by cases b<;>first | exact decide_eq_true_iff.trans (by simp) | exact ib (by intro e;cases e)
 | .ty _,b=>by cases b<;>first | exact decide_eq_true_iff.trans (by simp) | exact ib (by intro e;cases e)
 | .tup a,b=>by cases b<;>first | exact(PV.rR a _).trans (by simp) | exact ib (by intro e;cases e)
 | .ktup a,b=>by cases b<;>first | exact(PV.rR a _).trans (by simp) | exact ib (by intro e;cases e)
theorem PV.rR: ∀(a b:List PV),PV.GY a b=true↔a=b
 | [],b=>by cases b<;>first | exact iff_of_true rfl rfl | exact ib (by intro e;cases e)
 | a::x,b=>by
  cases b with
  | nil=>exact ib (by intro e;cases e)
  | cons b y=>exact(SU.trans (and_congr (PV.beq_iff a b) (PV.rR x y))).trans (by simp)
end
instance:DecidableEq PV:=λa b=>decidable_of_iff _ (PV.beq_iff a b)
mutual
noncomputable def PV.flat:PV->Bool
 | .ref _=>false
 | .tup xs=>PV.bh xs
 | .ktup xs=>PV.bh xs
 | _=>true
noncomputable def PV.bh:List PV->Bool
 | []=>true
 | x::r=>x.flat&&PV.bh r
end
mutual
noncomputable def PV.hU(n:Nat):PV->Bool
 | .ref m=>decide (m < n)
 | .tup xs=>PV.gp n xs
 | .ktup xs=>PV.gp n xs
 | _=>true
noncomputable def PV.gp(n:Nat):List PV->Bool
 | []=>true
 | x::r=>x.hU n&&PV.gp n r
end
inductive PO where
 | lst (xs:List PV) | fro (xs:List PV) | bu (kvs:List (Key × PV)) | dcT (kvs:List (List Key × PV)) | obj (C:Nat) (fs:List (Str × PV)) | exc (C:Nat) (fs:List (Str × PV))
 deriving DecidableEq
noncomputable def PO.dq:PO->Bool
 | .fro _=>false
 | .exc _ _=>false
 | _=>true
noncomputable def PO.hU(n:Nat):PO->Bool
 | .lst xs=>PV.gp n xs
 | .fro xs=>PV.gp n xs
 | .bu kvs=>PV.gp n (kvs.map (·.2))
 | .dcT kvs=>PV.gp n (kvs.map (·.2))
 | .obj _ fs=>PV.gp n (fs.map (·.2))
 | .exc _ fs=>PV.gp n (fs.map (·.2))
abbrev PH:=List PO
abbrev ay:=List (Option PV)
section
variable{ρ ρ':List Sl}
noncomputable def PV.seq?:PV->Option (List PV)
 | .tup xs=>fI xs
 | .ktup xs=>fI xs
 | _=>ox
end
end _P
namespace _P
open PySem PySem.Spec PyProof.Rows _L
inductive RV(α :Type) where
 | ok (a: α) (h:PH) | ex (c:Nat) (vs:List (Str × PV)) (h:PH) | no
variable{α β :Type}
noncomputable def RV.bind:RV α ->(α ->PH->RV β)->RV β
 | .ok a h,f=>f a h
 | .ex c vs h,_=> .ex c vs h
 | .no,_=> .no
theorem d9:(RV.ok a h).bind f=f a h:=rfl
theorem bind_eq{r:RV α}:r.bind f= .ok b h'↔ ∃ a h,r= .ok a h/\f a h= .ok b h':=by
 cases r with
 | ok a h=>exact⟨λe=>⟨a,h,rfl,e⟩,by rintro ⟨a',h2,e,q⟩;exact by cases e;exact q⟩
 | ex c vs h=>exact⟨λe=>(by cases e),by simp_all⟩
 | no=>exact⟨λe=>(by cases e),by simp_all⟩
theorem EU[Decidable c]{ b:RV α}:(if c then a else b).bind f=if c then a.bind f else b.bind f:=by split<;>rfl
theorem bind_assoc{r:RV α}:(r.bind f).bind g=r.bind λa h=>(f a h).bind g:=by cases r<;>rfl
def Ok(r:RV α)(Q: α ->PH->Prop):= ∃ a h,r= .ok a h/\Q a h
abbrev CF:=String->List PV->PH->RV PV
abbrev ME:=CF->ay->PH->RV PV
abbrev MT:=CF->ay->PH->RV Bool
abbrev MA:=CF->ay->PH->RV (List PV)
inductive Fl where
 | nx (e:ay) | rt (v:PV) | bk (e:ay) | ct (e:ay)
abbrev MS:=CF->ay->PH->RV Fl
abbrev MG:=PV->ay->PH->RV ay
structure kC where
 gd:Option Nat
 items:List PV
abbrev MI:=CF->ay->PH->RV kC
structure Df where
 ps:List Str
 nl:Nat
 body:MS
structure Tb where
 fns:String->Option Df
 con:Str->Option PV
 xG:Str->Option (List (Key × PV))
 P5:String->Option (String × Str × Df)
 cls:String->Option (Nat × String)
 adr:String->Option (Nat × List Str)
noncomputable def Tb.df(pg:Tb)(f:String):Option Df:=match pg.fns f with
 | some d=>fI d
 | none=>(pg.P5 f).map (·.2.2)
noncomputable def bX(n:Nat):PH->PH->Bool
 | [],_=>true
 | _::_,[]=>false
 | o::h,o'::h'=>(decide (o=o')||(o'.hU n&&o.dq == o'.dq))&&bX n h h'
noncomputable def settle(h:PH)(v:PV)(h':PH):RV PV:=if (v.flat&&bX h.length h h')=true then .ok v (h'.take h.length) else .ok v h'
noncomputable def pL(h:PH)(C:Nat)(us:List (Str × PV))(h':PH):RV PV:=if (PV.bh (us.map (·.2))&&bX h.length h h')=true then .ex C us (h'.take h.length) else .ex C us h'
theorem k6 n: ∀ h g,bX n h (h++g)=true
 | [],g=>rfl
 | o::h,g=>by rw[TA,bX,k6 n h g];simp
theorem qL(hu:o'.hU n=true): ∀ h h' i o,bX n h h'=true->h[i]?=fI o->o.dq=o'.dq->bX n h (h'.set i o')=true
 | [],h',i,o,_,e,_=>by simp at e
 | a::h,[],i,o,q,_,_=>by simp[bX] at q
 | a::h,b::h',0,o,q,e,m=>by
  rw[bX,Sr] at q;simp at e;subst e;rw[Xg,bX,q.2,hu,m];simp
 | a::h,b::h',i+1,o,q,e,m=>by
  rw[bX,Sr] at q;rw[List.set_cons_succ,bX,qL hu h h' i o q.2 (by simpa using e) m,q.1];rfl
theorem pZ: ∀{h h'},bX n h h'=true->h.length<=h'.length
 | [],h',_=>SX _
 | o::h,[],e=>by simp[bX] at e
 | o::h,o'::h',e=>by
  rw[bX,Sr] at e;exact WD (pZ e.2)
theorem tG: ∀{h h'}{i:Nat}{o'},bX n h h'=true->(h'.take h.length)[i]?=fI o'-> ∃ o,h[i]?=fI o/\o.dq=o'.dq/\(o=o'\/o'.hU n=true)
 | [],h',i,o',_,e=>by simp at e
 | a::h,[],i,o',q,_=>by simp[bX] at q
 | a::h,b::h',0,o',q,e=>by
  rw[bX,Sr,V2,Sr] at q;simp at e;subst e;refine⟨a,rfl,?_,?_⟩
  . rcases q.1 with z | z
    . rw[of_decide_eq_true z]
    . simpa using z.2
  . rcases q.1 with z | z
    . exact .inl (of_decide_eq_true z)
    . exact .inr z.1
 | a::h,b::h',i+1,o',q,e=>by
  rw[bX,Sr] at q;simpa using tG q.2 (by simpa using e)
noncomputable def run(pg:Tb):Nat->CF
 | 0,_,_,_=> .no
 | k+1,f,vs,h=>match pg.df f with
  | none=>(match pg.cls f with
   | some q=>(match run pg k q.2 (.ref h.length::vs) (h++[.obj q.1 []]) with
    | .ok .non h'=> .ok (.ref h.length) h'
    | _=> .no)
   | none=>(match pg.adr f with
    | some q=> .ok (.int q.1) h
    | none=> .no))
  | some d=>if vs.length=d.ps.length then
    (match d.body (run pg k) (vs.map fI++Sz d.nl ox) h with
    | .ok (.rt v) h'=>settle h v h'
    | .ok (.nx _) h'=>settle h .non h'
    | .ok _ _=> .no
    | .ex c us h'=>pL h c us h'
    | .no=> .no)
   else .no
theorem Aq{pg:Tb}(h:pg.fns f=fI d):pg.df f=fI d:=by unfold Tb.df;rw[h]
section
variable{ρ ρ1:List Sl}{h':PH}
noncomputable def RV.nx:RV α ->Bool
 | .ex _ _ _=>false
 | _=>true
end
noncomputable def kC.ir(it:kC)(h:PH):Bool:=match it.gd with
 | none=>true
 | some n=>decide (h[n]?=fI (.lst it.items)∨h[n]?=fI (.fro it.items))
noncomputable def iO:List Str:=["len", "range", "isinstance", "int", "bool", "tuple", "dict", "sorted", "min", "max", "abs", "all", "any", "sum", "str", "list", "zip", "set", "repr", "enumerate"]
end _P
namespace _P
open PySem PySem.Spec PyProof.Rows _L
noncomputable def aa(i:Nat):ME:=λ_ e h=>match e[i]? with
 | some (fI v)=> .ok v h
 | _=> .no
noncomputable def eC(v:PV):ME:=λ_ _ h=> .ok v h
noncomputable def ao(f:PV->PV->PH->RV PV)(a b:ME):ME:=λc e h=>(a c e h).bind λx h1=>(b c e h1).bind λy h2=>f x y h2
noncomputable def Az(f:PV->PH->RV PV)(a:ME):ME:=λc e h=>(a c e h).bind f
noncomputable def ur(v:PV)(h:PH):RV Bool:=match v with
 | .bl b=> .ok b h
 | _=> .no
noncomputable def wK(a b:ME):ME:=λc e h=>((a c e h).bind ur).bind λx h1=>if x=true then b c e h1 else .ok (.bl false) h1
noncomputable def Pz(a b:ME):ME:=λc e h=>((a c e h).bind ur).bind λx h1=>if x=true then .ok (.bl true) h1 else b c e h1
noncomputable def Hr(a:ME):ME:=λc e h=>((a c e h).bind ur).bind λx h1=> .ok (.bl (!x)) h1
noncomputable def vK(t:MT)(a b:ME):ME:=λc e h=>(t c e h).bind λx h1=>if x=true then a c e h1 else b c e h1
noncomputable def aF(a:ME):MT:=λc e h=>(a c e h).bind ur
noncomputable def iq(a b:MT):MT:=λc e h=>(a c e h).bind λx h1=>if x=true then b c e h1 else .ok false h1
noncomputable def Ii(a b:MT):MT:=λc e h=>(a c e h).bind λx h1=>if x=true then .ok true h1 else b c e h1
noncomputable def uW(a:MT):MT:=λc e h=>(a c e h).bind λx h1=> .ok (!x) h1
noncomputable def aK:MT:=λ_ _ h=> .ok true h
noncomputable def aj:MA:=λ_ _ h=> .ok [] h
noncomputable def ae(a:ME)(r:MA):MA:=λc e h=>(a c e h).bind λx h1=>(r c e h1).bind λxs h2=> .ok (x::xs) h2
noncomputable def jD n (r:RV α):=if n<=sizeLine then r else .no
noncomputable def aw(r:MA):ME:=λc e h=>(r c e h).bind λxs h1=>jD xs.length (.ok (.tup xs) h1)
noncomputable def bA(r:MA):ME:=λc e h=>(r c e h).bind λxs h1=>jD xs.length (.ok (.ref h1.length) (h1++[.lst xs]))
noncomputable def ai(f:String)(r:MA):ME:=λc e h=>(r c e h).bind λxs h1=>c f xs h1
noncomputable def eB(f:List PV->PH->RV PV)(r:MA):ME:=λc e h=>(r c e h).bind f
noncomputable def eM(f:PV->List PV->PH->RV PV)(ty:PV->PH->Bool)(a:ME)(r:MA):ME:=λc e h=>(a c e h).bind λx h1=>if ty x h1=true then(r c e h1).bind λxs h2=>f x xs h2 else .no
noncomputable def uE(f g:PV->PV->PH->RV PV)(a b d:ME):ME:=λc e h=>(a c e h).bind λx h1=>(b c e h1).bind λy h2=>((f x y h2).bind ur).bind λk h3=>if k=true then(d c e h3).bind λz h4=>g y z h4 else .ok (.bl false) h3
end _P
namespace _P
open PySem PySem.Spec PyProof.Rows _L
noncomputable def cD:MS:=λ_ e h=> .ok (.nx e) h
noncomputable def ag(a b:MS):MS:=λc e h=>(a c e h).bind λf h1=>match f with
 | .nx e1=>b c e1 h1
 | f=> .ok f h1
noncomputable def cf(a:ME):MS:=λc e h=>(a c e h).bind λ_ h1=> .ok (.nx e) h1
noncomputable def aA(a:ME):MS:=λc e h=>(a c e h).bind λv h1=> .ok (.rt v) h1
noncomputable def bS(t:MT)(a b:MS):MS:=λc e h=>(t c e h).bind λx h1=>if x=true then a c e h1 else b c e h1
noncomputable def kb:MS:=λ_ _ _=> .no
noncomputable def ak(a:ME)(g:MG):MS:=λc e h=>(a c e h).bind λv h1=>(g v e h1).bind λe1 h2=> .ok (.nx e1) h2
noncomputable def gN(i:Nat):MG:=λv e h=> .ok (e.set i (fI v)) h
noncomputable def gT(n:Nat)(g:List PV->ay->PH->RV ay):MG:=λv e h=>match v.seq? with
 | some xs=>if xs.length=n then g xs e h else .no
 | none=> .no
noncomputable def bN:List PV->ay->PH->RV ay:=λvs e h=>match vs with
 | []=> .ok e h
 | _=> .no
noncomputable def ax(g:MG)(r:List PV->ay->PH->RV ay):List PV->ay->PH->RV ay:=λvs e h=>match vs with
 | []=> .no
 | v::t=>(g v e h).bind λe1 h1=>r t e1 h1
noncomputable def gW(f:PV->PV->PV->PH->RV Unit)(o i a:ME):MS:=λc e h=>(a c e h).bind λv h1=>(o c e h1).bind λx h2=>(i c e h2).bind λy h3=>(f x y v h3).bind λ_ h4=> .ok (.nx e) h4
noncomputable def bK(it:kC)(step:PV->ay->PH->RV Fl):List PV->ay->PH->RV Fl
 | [],e,h=>if it.ir h=true then .ok (.nx e) h else .no
 | x::xs,e,h=>if it.ir h=true then(step x e h).bind (λf h1=>match f with
   | .nx e1=>bK it step xs e1 h1
   | .ct e1=>bK it step xs e1 h1
   | .bk e1=> .ok (.nx e1) h1
   | .rt v=> .ok (.rt v) h1) else .no
noncomputable def jv(i:MI)(g:MG)(b:MS):MS:=λc e h=>(i c e h).bind λit h1=>bK it (λx e h=>(g x e h).bind λe1 h1=>b c e1 h1) it.items e h1
noncomputable def cR(t:ay->PH->RV Bool)(b:ay->PH->RV Fl):Nat->ay->PH->RV Fl
 | 0,_,_=> .no
 | n+1,e,h=>(t e h).bind λx h1=>if x=true then(b e h1).bind (λf h2=>match f with
   | .nx e1=>cR t b n e1 h2
   | .ct e1=>cR t b n e1 h2
   | .bk e1=> .ok (.nx e1) h2
   | .rt v=> .ok (.rt v) h2) else .ok (.nx e) h1
noncomputable def u6(t:MT)(b:MS):MS:=λc e h=>cR (t c) (b c) 100000 e h
noncomputable def dU(it:kC)(step:PV->PH->RV (Option PV)):List PV->List PV->PH->RV (List PV)
 | [],ys,h=>if it.ir h=true then .ok ys h else .no
 | x::xs,ys,h=>if it.ir h=true/\ys.length < sizeLine then(step x h).bind (λo h1=>match o with
   | some y=>dU it step xs (ys++[y]) h1
   | none=>dU it step xs ys h1) else .no
noncomputable def aM k (g:MG) (t:MT) (a:ME) c (e:ay) x h:=(g x (e++Sz k ox) h).bind λe2 h2=>(t c e2 h2).bind λb h3=>if b=true then(a c e2 h3).bind (λy h4=> .ok (fI y) h4) else .ok ox h3
noncomputable def hW(k:Nat)(i:MI)(g:MG)(t:MT)(a:ME):ME:=λc e h=>(i c e h).bind λit h1=>(dU it (aM k g t a c e) it.items [] h1).bind λys h2=> .ok (.ref h2.length) (h2++[.lst ys])
end _P
namespace _P
open PySem PySem.Spec PyProof.Rows _L
noncomputable def p2(f:Int->Int->RV PV):PV->PV->PH->RV PV:=λx y h=>match x,y with
 | .int i,.int j=>(f i j).bind λv _=> .ok v h
 | _,_=> .no
noncomputable def By(v:PV):RV PV:= .ok v []
section
variable{pg:Tb}{k:Nat}
noncomputable def sP:=p2 λi j=>By (.int (i - j))
noncomputable def oJ:=p2 λi j=>if 0 < j then By (.int (i % j)) else .no
noncomputable def F8:=p2 λi j=>if 0<=j/\j<=1000000/\i.natAbs < 2 ^ 64 then By (.int (i ^ j.toNat)) else .no
noncomputable def AQ:=p2 λi j=>By (.bl (decide (i < j)))
noncomputable def NP:=p2 λi j=>By (.bl (decide (i<=j)))
noncomputable def NA:=p2 λi j=>By (.bl (decide (j < i)))
noncomputable def Pb:=p2 λi j=>By (.bl (decide (j<=i)))
noncomputable def Qz(xs:List PV)(h:PH):RV PV:=jD xs.length (.ok (.ref h.length) (h++[.lst xs]))
noncomputable def aV:PV->PV->PH->RV PV:=λx y h=>match x,y with
 | .int i,.int j=> .ok (.int (i+j)) h
 | .str a,.str b=>jD (a.length+b.length) (.ok (.str (a++b)) h)
 | .tup xs,.tup ys=>jD (xs.length+ys.length) (.ok (.tup (xs++ys)) h)
 | .ref n,.ref m=>(match h[n]?,h[m]? with
  | some (.lst xs),fI (.lst ys)=>Qz (xs++ys) h
  | _,_=> .no)
 | _,_=> .no
noncomputable def br(h:PH)(n:Nat):Option (List PV):=match h[n]? with
 | some (.lst xs)=>fI xs
 | some (.fro xs)=>fI xs
 | _=>ox
noncomputable def c9{κ :Type}[DecidableEq κ](kvs:List (κ × PV)) k:=(kvs.find? λkv=>decide (kv.1=k)).map (·.2)
noncomputable def jm{κ :Type}[DecidableEq κ](kvs:List (κ × PV)) k v :=
 if (kvs.any λkv=>decide (kv.1=k))=true then kvs.map (λkv=>if kv.1=k then(kv.1,v) else kv) else kvs++[(k,v)]
noncomputable def jT:PV->Option Key
 | .int i=>fI (.inl i)
 | .str x=>fI (.inr x)
 | _=>ox
noncomputable def aE:PV->PV->PH->RV PV:=λx y h=>match x with
 | .tup xs=>(match y with
  | .int i=>(match fK xs i with | some v=> .ok v h | none=> .no)
  | _=> .no)
 | .ktup xs=>(match y with
  | .int i=>(match fK xs i with | some v=> .ok v h | none=> .no)
  | _=> .no)
 | .str z=>(match y with
  | .int i=>jD z.length (match fK z.cps.toList i with | some c=> .ok (.str ⟨#[c]⟩) h | none=> .no)
  | _=> .no)
 | .ref n=>(match h[n]? with
  | some (.bu kvs)=>(match jT y with
   | some k=>(match c9 kvs k with | some v=> .ok v h | none=> .no)
   | none=> .no)
  | some (.lst xs)=>(match y with
   | .int i=>(match fK xs i with | some v=> .ok v h | none=> .no)
   | _=> .no)
  | some (.fro xs)=>(match y with
   | .int i=>(match fK xs i with | some v=> .ok v h | none=> .no)
   | _=> .no)
  | _=> .no)
 | _=> .no
noncomputable def fD:PV->PV->PV->PH->RV Unit:=λx y v h=>match x with
 | .ref n=>(match h[n]? with
  | some (.bu kvs)=>(match jT y with
   | some k=>if kvs.length < sizeLine then .ok () (h.set n (.bu (jm kvs k v))) else .no
   | none=> .no)
  | some (.lst xs)=>(match y with
   | .int i=>(match uQ xs.length i with | some j=> .ok () (h.set n (.lst (xs.set j v))) | none=> .no)
   | _=> .no)
  | _=> .no)
 | _=> .no
end
end _P
namespace _P
open PySem PySem.Spec PyProof.Rows _L
mutual
noncomputable def ic(sub:Nat->Option Vd):PV->Option Vd
 | .non=>fI .none
 | .bl b=>fI (.bool b)
 | .int i=>fI (.int i)
 | .str x=>fI (.str x)
 | .tup xs=>(bW sub xs).map .tuple
 | .ktup xs=>(bW sub xs).map .tuple
 | .ref n=>sub n
 | .ty _=>ox
noncomputable def bW(sub:Nat->Option Vd):List PV->Option (List Vd)
 | []=>fI []
 | x::r=>match ic sub x,bW sub r with
  | some d1,fI ds1=>fI (d1::ds1)
  | _,_=>ox
end
noncomputable def dat:Nat->PH->PV->Option Vd
 | 0,_=>ic λ_=>ox
 | n+1,h=>ic λm=>match h[m]? with
  | some (.lst xs)=>(bW (λj=>dat n h (.ref j)) xs).map .list
  | some (.fro xs)=>(bW (λj=>dat n h (.ref j)) xs).map .list
  | _=>ox
section
variable{pg:Tb}{k:Nat}
noncomputable def jR:PV->PV->Bool
 | .non,.non=>true | .non,.int _=>true | .int _,.non=>true | .non,.bl _=>true | .bl _,.non=>true | .non,.str _=>true | .str _,.non=>true
 | .int _,.int _=>true | .bl _,.bl _=>true | .str _,.str _=>true
 | .int _,.str _=>true | .str _,.int _=>true | .bl _,.str _=>true | .str _,.bl _=>true
 | _,_=>false
noncomputable def iL(h:PH):PV->Bool
 | .ref n=>(match h[n]? with
  | some (.bu _)=>true
  | _=>false)
 | _=>false
noncomputable def isStr:PV->Bool
 | .str _=>true
 | _=>false
noncomputable def alike x y h :=
 if jR x y=true then fI (decide (x=y)) else match dat 6 h x,dat 6 h y with
  | some a,fI b=>if a.canLay0=true/\b.canLay0=true/\min a.depth b.depth<=64 then fI (U6 a b) else ox
  | _,_=>if iL h x=true/\isStr y=true then fI false else ox
noncomputable def eE(x y:PV)(h:PH):RV PV:=match alike x y h with
 | some b=> .ok (.bl b) h
 | none=> .no
noncomputable def kR(x y:PV)(h:PH):RV PV:=match alike x y h with
 | some b=>if iL h x=true then .no else .ok (.bl (!b)) h
 | none=> .no
noncomputable def itemsOf(h:PH):PV->Option (List PV)
 | .tup xs=>fI xs
 | .ktup xs=>fI xs
 | .ref n=>br h n
 | _=>ox
noncomputable def iN:PV->Bool
 | .non=>true
 | .bl _=>true
 | .int _=>true
 | .str _=>true
 | _=>false
noncomputable def EA:PV->PV->Bool
 | .non,.non=>true
 | .bl a,.bl b=>a == b
 | .bl a,.int b=>(if a then 1 else 0) == b
 | .int a,.bl b=>a == (if b then 1 else 0)
 | .int a,.int b=>a == b
 | .str a,.str b=>a == b
 | _,_=>false
noncomputable def isIn(x y:PV)(h:PH):Option Bool:=match itemsOf h y with
 | some xs=>if (iN x&&xs.all iN)=true then fI (xs.any λz=>EA z x) else(match dat 6 h x,bW (λj=>dat 6 h (.ref j)) xs with
  | some d,fI ds=>if Tg ds=true/\d.canLay0=true/\min (T9 ds) d.depth<=60 then fI (ds.any λz=>U6 z d) else ox
  | _,_=>ox)
 | none=>(match y with
  | .ref n=>(match h[n]? with
   | some (.bu kvs)=>(jT x).map λk=>(c9 kvs k).isSome
   | _=>ox)
  | .str j=>(match x with
   | .str i=>fI (!(Yo j i 0 j.length 1).isEmpty)
   | _=>ox)
  | _=>ox)
noncomputable def jE(x y:PV)(h:PH):RV PV:=match isIn x y h with
 | some b=> .ok (.bl b) h
 | none=> .no
noncomputable def lu(x y:PV)(h:PH):RV PV:=match isIn x y h with
 | some b=> .ok (.bl (!b)) h
 | none=> .no
noncomputable def gX(neg:Bool)(x:PV)(h:PH):RV PV:= .ok (.bl (if neg then !decide (x= .non) else decide (x= .non))) h
variable{a:Tr}{ma:ME}{pos pos':Pos}
end
end _P
namespace _P
open PySem PySem.Spec PyProof.Rows _L
section
variable{pg:Tb}{k:Nat}
abbrev MO:=CF->ay->PH->RV (Option Int)
noncomputable def fR:MO:=λ_ _ h=> .ok ox h
noncomputable def cL(a:ME):MO:=λc e h=>(a c e h).bind λv h1=>match v with
 | .int i=> .ok (fI i) h1
 | _=> .no
noncomputable def fQ(xs:List PV) lo hi:=(xs.drop (_H.jl xs.length 0 lo)).take (_H.jl xs.length xs.length hi - _H.jl xs.length 0 lo)
noncomputable def yf(x:PV)(lo hi:Option Int)(h:PH):RV PV:=match x with
 | .tup xs=> .ok (.tup (fQ xs lo hi)) h
 | .ref n=>(match br h n with
  | some xs=> .ok (.ref h.length) (h++[.lst (fQ xs lo hi)])
  | none=> .no)
 | _=> .no
noncomputable def t9(a:ME)(l u:MO):ME:=λc e h=>(a c e h).bind λx h1=>(l c e h1).bind λlo h2=>(u c e h2).bind λhi h3=>yf x lo hi h3
noncomputable def bG:List PV->PH->RV PV:=λxs h=>match xs with
 | [x]=>(match itemsOf h x with
  | some ys=> .ok (.int ys.length) h
  | none=>(match x with
   | .str z=>jD z.length (.ok (.int z.length) h)
   | .ref n=>(match h[n]? with
    | some (.bu kvs)=> .ok (.int kvs.length) h
    | _=> .no)
   | _=> .no))
 | _=> .no
inductive Ty where
 | non | bool | int | str | tuple | list | dict
 deriving DecidableEq
noncomputable def Ty.n:Ty->String
 | .non=> "NoneType" | .bool=> "bool" | .int=> "int" | .str=> "str" | .tuple=> "tuple" | .list=> "list" | .dict=> "dict"
noncomputable def Ty.of:String->Option Ty
 | "bool" =>fI .bool | "int" =>fI .int | "str" =>fI .str | "tuple" =>fI .tuple | "list" =>fI .list | "dict" =>fI .dict
 | _=>ox
noncomputable def Ty.OH(a b:Ty):=decide (a=b)||(decide (a= .bool)&&decide (b= .int))
noncomputable def tyP(h:PH):PV->Option Ty
 | .non=>fI .non
 | .bl _=>fI .bool
 | .int _=>fI .int
 | .str _=>fI .str
 | .tup _=>fI .tuple
 | .ref n=>(match h[n]? with
  | some (.lst _)=>fI .list
  | some (.bu _)=>fI .dict
  | _=>ox)
 | _=>ox
theorem Ty.Pu(h:Ty.of T=fI t):T=t.n/\t≠ .non:=by
 unfold Ty.of at h;split at h<;>first | (cases h;exact⟨rfl,by decide⟩) | cases h
noncomputable def Ak:List PV->Option (List Ty)
 | []=>fI []
 | .ty T::r=>(match Ty.of T,Ak r with
  | some t,fI ts=>fI (t::ts)
  | _,_=>ox)
 | _=>ox
noncomputable def sC:List PV->PH->RV PV:=λxs h=>match xs with
 | [x,.ty T]=>(match tyP h x,Ty.of T with
  | some a,fI b=> .ok (.bl (a.OH b)) h
  | _,_=> .no)
 | [x,.tup ts]=>(match tyP h x,Ak ts with
  | some a,fI bs=> .ok (.bl (bs.any a.OH)) h
  | _,_=> .no)
 | _=> .no
noncomputable def vW:List PV->PH->RV PV:=λxs h=>match xs with
 | [.int i]=> .ok (.int i) h
 | [.bl b]=> .ok (.int (if b then 1 else 0)) h
 | _=> .no
noncomputable def aQ:List PV->PH->RV PV:=λxs h=>match xs with
 | [.tup ys]=> .ok (.tup ys) h
 | [.ref n]=>(match br h n with
  | some ys=> .ok (.tup ys) h
  | none=> .no)
 | _=> .no
noncomputable def kS:List PV->PH->RV PV:=λxs h=>match xs with
 | [x]=>(match itemsOf h x with
  | some ys=> .ok (.ref h.length) (h++[.lst ys])
  | none=> .no)
 | _=> .no
noncomputable def yW:List PV->Option (List Bool)
 | []=>fI []
 | .bl b::r=>(yW r).map (b:: ·)
 | _=>ox
noncomputable def qV:List PV->Option (List Int)
 | []=>fI []
 | .int b::r=>(qV r).map (b:: ·)
 | _=>ox
theorem AO: ∀{xs bs},yW xs=fI bs->xs=bs.map PV.bl
 | [],bs,e=>by cases e;rfl
 | .bl b::r,bs,e=>by
  rw[yW] at e;cases q:yW r with
  | none=>simp_all
  | some cs=>rw[q] at e;cases e;rw[AO q];rfl
 | .non::_,_,e=>by cases e
 | .int _::_,_,e=>by cases e
 | .str _::_,_,e=>by cases e
 | .tup _::_,_,e=>by cases e
 | .ktup _::_,_,e=>by cases e
 | .ref _::_,_,e=>by cases e
 | .ty _::_,_,e=>by cases e
theorem wO: ∀{xs bs},qV xs=fI bs->xs=bs.map PV.int
 | [],bs,e=>by cases e;rfl
 | .int b::r,bs,e=>by
  rw[qV] at e;cases q:qV r with
  | none=>rw[q] at e;nomatch e
  | some cs=>rw[q] at e;cases e;rw[wO q];rfl
 | .non::_,_,e=>nomatch e
 | .bl _::_,_,e=>nomatch e
 | .str _::_,_,e=>nomatch e
 | .tup _::_,_,e=>nomatch e
 | .ktup _::_,_,e=>nomatch e
 | .ref _::_,_,e=>nomatch e
 | .ty _::_,_,e=>nomatch e
noncomputable def Ew{α :Type}(g:List PV->Option (List α))(f:List α ->PV):List PV->PH->RV PV:=λxs h=>match xs with
 | [.ref n]=>(match br h n with
  | some ys=>(match g ys with
   | some bs=> .ok (f bs) h
   | none=> .no)
  | none=> .no)
 | _=> .no
noncomputable def Ff:=Ew yW λbs=> .bl (bs.all id)
noncomputable def bD:PV->PH->Bool:=λx h=>match x with
 | .ref n=>(match h[n]? with
  | some (.lst _)=>true
  | _=>false)
 | _=>false
noncomputable def aS:PV->List PV->PH->RV PV:=λx vs h=>match x,vs with
 | .ref n,[v]=>(match h[n]? with
  | some (.lst xs)=>if xs.length < sizeLine then .ok .non (h.set n (.lst (xs++[v]))) else .no
  | _=> .no)
 | _,_=> .no
end
end _P
namespace _P
open PySem PySem.Spec PyProof.Rows _L
section
variable{pg:Tb}{k:Nat}{tg l:Tr}
noncomputable def lA(x:PV)(h:PH):RV kC:=match x with
 | .tup xs=> .ok ⟨ox,xs⟩ h
 | .ktup xs=> .ok ⟨ox,xs⟩ h
 | .str z=> .ok ⟨ox,z.cps.toList.map λc=> .str ⟨#[c]⟩⟩ h
 | .ref n=>(match br h n with
  | some xs=> .ok ⟨fI n,xs⟩ h
  | none=> .no)
 | _=> .no
noncomputable def iC(a:ME):MI:=λc e h=>(a c e h).bind lA
end
section
variable{pg:Tb}{k:Nat}{tg l:Tr}{ma:ME}
noncomputable def aJ lo n:=(S6 n).map λ(i:Nat)=>PV.int (lo+(i))
noncomputable def cY(r:MA):MI:=λc e h=>(r c e h).bind λvs h1=>match vs with
 | [.int j]=>if -(2 ^ 62)<=j/\j < 2 ^ 62 then .ok ⟨ox,aJ 0 j.toNat⟩ h1 else .no
 | _=> .no
variable{a b:Tr}{p pos:Pos}{mr:MA}
abbrev MP:=CF->ay->PH->RV (List (Key × PV))
noncomputable def DW:MP:=λ_ _ h=> .ok [] h
noncomputable def fS(a b:ME)(r:MP):MP:=λc e h=>(a c e h).bind λx h1=>match jT x with
 | some key=>(b c e h1).bind λv h2=>(r c e h2).bind λkvs h3=> .ok ((key,v)::kvs) h3
 | none=> .no
noncomputable def cE(kvs more:List (Key × PV)):=more.foldl (λacc kv=>jm acc kv.1 kv.2) kvs
noncomputable def wA(r:MP):ME:=λc e h=>(r c e (h++[.bu []])).bind λkvs h1=>if h1[h.length]?=fI (.bu [])/\kvs.length<=15 then .ok (.ref h.length) (h1.set h.length (.bu (cE [] kvs))) else .no
noncomputable def uz:ME:=λ_ _ h=> .ok (.ref h.length) (h++[.bu []])
noncomputable def tW(kvs:List (Key × PV))(a:ME):ME:=λc e h=>(a c e h).bind λx h1=>match jT x with
 | some key=>(match c9 kvs key with
  | some v=> .ok v h1
  | none=> .no)
 | none=> .no
variable{x:Str}{kvs:List (Key × PV)}{i:Tr}{mi:ME}{pos':Pos}
noncomputable def AV(d a b:ME):ME:=λc e h=>(d c e h).bind λx h1=>if iL h1 x=true then(a c e h1).bind (λy h2=>(b c e h2).bind λz h3=>match x,jT y with
 | .ref n,fI key=>(match h3[n]? with
  | some (.bu kvs)=> .ok ((c9 kvs key).getD z) h3
  | _=> .no)
 | _,_=> .no) else .no
end
end _P
namespace _P
open PySem PySem.Spec PyProof.Rows _L
section
variable{pg:Tb}{k:Nat}
noncomputable def pairP?:PV->Option (Key × PV)
 | .tup [a,v]=>(jT a).map λk=>(k,v)
 | _=>ox
noncomputable def k8:List PV->Option (List (Key × PV))
 | []=>fI []
 | x::r=>(match pairP? x,k8 r with
  | some p,fI ps=>fI (p::ps)
  | _,_=>ox)
noncomputable def wQ:List PV->PH->RV PV:=λxs h=>match xs with
 | [.tup ys]=>(match k8 ys with
  | some kvs=>if ys.length < sizeLine then .ok (.ref h.length) (h++[.bu (cE [] kvs)]) else .no
  | none=> .no)
 | [.ref n]=>(match h[n]? with
  | some (.bu kvs)=>if kvs.length<=sizeLine then .ok (.ref h.length) (h++[.bu (cE [] kvs)]) else .no
  | _=> .no)
 | _=> .no
theorem ky{α :Type}{le}: ∀{l1 l2:List α},(∀ a∈l1,∀ b∈l1,le a b->le b a->a=b)->l1.Perm l2->l1.Pairwise le->l2.Pairwise le->l1=l2
 | [],l2,_,p,_,_=>List.Perm.nil_eq p
 | a::r,[],_,p,_,_=>absurd p.length_eq (by simp)
 | a::r,b::r',anti,p,h1,h2=>by
  rw[UQ] at h1 h2;have hb:=p.mem_iff.mpr So;have e:a=b:=by
   rcases Sd.mp (p.mem_iff.mp (So)) with e | m
   . exact e
   . rcases Sd.mp hb with e | m'
     . exact e.symm
     . exact anti a So b hb (h1.1 b m') (h2.1 a m)
  subst e;rw[ky (λx hx y hy=>anti x (Sk _ hx) y (Sk _ hy)) (List.Perm.cons_inv p) h1.2 h2.2]
noncomputable def rZ a b:= !decide (kE b a)
noncomputable def eA(ss:List Str):=ss.mergeSort rZ
theorem iB a b c (h1:rZ a b=true) (h2:rZ b c=true):rZ a c=true:=by
 unfold rZ at h1 h2 ⊢;simp only[Tt,decide_eq_false_iff_not] at h1 h2 ⊢;intro h;by_cases e:b=a
 . subst e;exact h2 h
 . rcases nU e with z | z
   . exact h1 z
   . exact h2 (kf h z)
theorem ko a b:(rZ a b||rZ b a)=true:=by
 unfold rZ;by_cases h:kE b a
 . simp [tY h]
 . simp [h]
theorem vM(h1 : rZ a b = true)(h2 : rZ b a = true) : a = b := by
  unfold rZ at h1 h2;simp only [Tt, decide_eq_false_iff_not] at h1 h2
  exact Decidable.byContradiction fun e => by rcases nU e with z | z; · exact h2 z
                                              . exact h1 z
theorem AZ: ∀{r p},risingS p r=true->(p::r).Pairwise λa b=>rZ a b=true:=by
 intro r
 induction r with
 | nil=>intro p _;exact Wa _ _
 | cons x r ih =>
  intro p h
  simp only[risingS,Sr] at h
  have h1:rZ p x=true:=by
   have:=h.1;rw[ltCps_eq] at this;exact this
  have h2:=ih h.2
  refine UQ.mpr ⟨λy hy=>?_,h2⟩
  rcases Sd.mp hy with rfl | m
  . exact h1
  . exact iB _ _ _ h1 ((UQ.mp h2).1 y m)
theorem Bi(h:QN ss=true):ss.Pairwise λa b=>rZ a b=true:=by
 cases ss with
 | nil=>exact .nil
 | cons p r=>exact AZ h
theorem xD(p:ss'.Perm ss)(h:QN ss'=true):ss'=eA ss :=
 ky (le:=λa b=>rZ a b=true) (λ_ _ _ _ h1 h2=>vM h1 h2) (p.trans (UD ss rZ).symm) (Bi h) (Ul iB (λa b=>by simpa using ko a b) ss)
noncomputable def eG:List PV->Option (List Str)
 | []=>fI []
 | .str x::r=>(eG r).map (x:: ·)
 | _=>ox
theorem gK: ∀{xs ss},eG xs=fI ss->xs=ss.map PV.str
 | [],bs,e=>by cases e;rfl
 | .str b::r,bs,e=>by
  rw[eG] at e;cases q:eG r with
  | none=>simp_all
  | some cs=>rw[q] at e;cases e;rw[gK q];rfl
 | .non::_,_,e=>by cases e
 | .bl _::_,_,e=>by cases e
 | .int _::_,_,e=>by cases e
 | .tup _::_,_,e=>by cases e
 | .ktup _::_,_,e=>by cases e
 | .ref _::_,_,e=>by cases e
 | .ty _::_,_,e=>by cases e
theorem dK: ∀ ss,eG (ss.map PV.str)=fI ss
 | []=>rfl
 | b::r=>by rw[R9,eG,dK r];rfl
noncomputable def nI:PV->Int
 | .int i=>i
 | _=>0
noncomputable def nS:PV->Str
 | .str x=>x
 | _=> ""
noncomputable def A6:PV->Nat->PV
 | .tup xs,i=>(xs[i]?).getD .non
 | _,_=> .non
noncomputable def eW(q:Str × Int):PV:= .tup [.str q.1,.int q.2]
noncomputable def QB x:=(nS (A6 x 0),nI (A6 x 1))
noncomputable def zN:List PV->Option (List (Str × Int))
 | []=>fI []
 | x::r=>if x=eW (QB x) then(zN r).map (QB x:: ·) else ox
theorem xt: ∀ ps,zN (ps.map eW)=fI ps
 | []=>rfl
 | b::r=>by
  have e:QB (eW b)=b:=rfl;rw[R9,zN,e,if_pos rfl,xt r];rfl
theorem FW: ∀{xs ps},zN xs=fI ps->xs=ps.map eW:=by
 intro xs
 induction xs with
 | nil=>intro ps e;cases e;rfl
 | cons x r ih =>
  intro ps e
  rw[zN] at e
  split at e
  . rename_i h;cases q:zN r with
    | none=>rw[q] at e;nomatch e
    | some cs=>rw[q] at e;cases e;rw[ih q,R9,<- h]
  . nomatch e
theorem Fv: ∀{ps:List (Str × Int)},(ps.map (·.1)).Nodup-> ∀{a b},a∈ps->b∈ps->a.1=b.1->a=b
 | [],_,a,b,ha,_,_=>by cases ha
 | p::r,nd,a,b,ha,hb,e=>by
  rw[R9] at nd;rw[U1] at nd;rcases Sd.mp ha with ha | ha<;>rcases Sd.mp hb with hb | hb
  . rw[ha,hb]
  . exact absurd (by rw[<- ha,e];exact SS.mpr ⟨b,hb,rfl⟩) nd.1
  . exact absurd (by rw[<- hb,<- e];exact SS.mpr ⟨a,ha,rfl⟩) nd.1
  . exact Fv nd.2 ha hb e
noncomputable def qX(ps:List (Str × Int)):=ps.mergeSort λa b=>rZ a.1 b.1
theorem Fe(nd:(ps.map (·.1)).Nodup)(p:ps'.Perm ps)(h:(ps'.map (·.1)).Pairwise kE):ps'=qX ps:=by
 have h2:ps'.Pairwise λa b=>rZ a.1 b.1=true:=by
  rw[VB] at h;exact h.imp λ{a b} z=>by unfold rZ;simp[tY z]
 refine ky (le:=λa b=>rZ a.1 b.1=true) (λa ha b hb z1 z2=>?_) (p.trans (UD ps _).symm) h2 (Ul (λa b c=>iB a.1 b.1 c.1) (λa b=>by simpa using ko a.1 b.1) ps);have e:=vM z1 z2;have ha':=p.mem_iff.mp ha;have hb':=p.mem_iff.mp hb;exact Fv nd ha' hb' e
noncomputable def pO:List PV->PH->RV PV:=λxs h=>match xs with
 | [x]=>(match itemsOf h x with
  | some ys=>(match x with
   | .ref _=>(match eG ys with
    | some ss=>if ss.length < 64 then .ok (.ref h.length) (h++[.lst ((eA ss).map PV.str)]) else .no
    | none=>(match zN ys with
     | some ps=>if ps.length < 64/\(ps.map (·.1)).Nodup then .ok (.ref h.length) (h++[.lst ((qX ps).map eW)]) else .no
     | none=> .no))
   | _=> .no)
  | none=>(match x with
   | .ref n=>(match h[n]? with
    | some (.bu kvs)=>(match eG (kvs.map λkv=>match kv.1 with | .inl i=> .int i | .inr z=> .str z) with
     | some ss=>if ss.length < 64 then .ok (.ref h.length) (h++[.lst ((eA ss).map PV.str)]) else .no
     | none=> .no)
    | _=> .no)
   | _=> .no))
 | _=> .no
theorem keys_str: ∀{kvs:List (Key × PV)}{ss:List Str},(kvs.map λkv=>(match kv.1 with | .inl i=>PV.int i | .inr z=>PV.str z))=ss.map PV.str->kvs.map (·.1)=ss.map V1
 | [],ss,e=>by simp_all
 | (.inl i,v)::r,ss,e=>by cases ss with | nil=>cases e | cons=>simp at e
 | (.inr z,v)::r,ss,e=>by
  cases ss with
  | nil=>cases e
  | cons y t =>
   rw[R9,R9,WV] at e
   rw[R9,keys_str e.2]
   cases e.1;rfl
end
end _P
namespace _P
open PySem PySem.Spec PyProof.Rows _L
section
variable{pg:Tb}{k:Nat}{a b:Tr}{ma mb:ME}{p pos:Pos}{els:List Tr}{j:Nat}{tpos:Pos}
noncomputable def Ms(a b:ME):MI:=λc e h=>(a c e h).bind λx h1=>(b c e h1).bind λy h2=>match x.seq?,y.seq? with
 | some xs,fI ys=> .ok ⟨ox,(xs.zip ys).map λp=> .tup [p.1,p.2]⟩ h2
 | _,_=> .no
end
end _P
namespace _P
open PySem PySem.Spec PyProof.Rows _L
theorem yx(h1: -(2 ^ 63)<=k)(h2:k < 2 ^ 63): ¬ (decide (k < -(2 ^ 63))||decide (k ≥ 2 ^ 63))=true:=by
 simp_all
section
variable{pg:Tb}{k:Nat}
noncomputable def dH:PV->PV->PH->RV PV:=λx y h=>match x,y with
 | .int i,.int j=>if (-(2 ^ 64) < i/\i < 2 ^ 64)\/(-(2 ^ 64) < j/\j < 2 ^ 64) then .ok (.int (i*j)) h else .no
 | .tup xs,.int k=>if (xs.length)*k<=100000/\ -100000<=k/\k<=100000 then .ok (.tup (Sz k.toNat xs).flatten) h else .no
 | .ref n,.int k=>(match h[n]? with
  | some (.lst xs)=>if (-(2 ^ 63)<=k/\k < 2 ^ 63)/\xs.length*k.toNat<=sizeLine then .ok (.ref h.length) (h++[.lst (Sz k.toNat xs).flatten]) else .no
  | _=> .no)
 | _,_=> .no
end
end _P
namespace _P
open PySem PySem.Spec PyProof.Rows _L
section
variable{pg:Tb}{k:Nat}
noncomputable def dN:List PV->PH->RV PV:=λxs h=>match xs with
 | [.tup ys]=>(match eG ys with
  | some ss=>if ss.length < 64 then .ok (.ref h.length) (h++[.lst ((eA ss).map PV.str)]) else .no
  | none=> .no)
 | _=>pO xs h
end
end _P
namespace _P
open PySem _L
noncomputable def fin h (r:RV Fl):=match r with
 | .ok (.rt v) h'=>settle h v h'
 | .ok (.nx _) h'=>settle h .non h'
 | .ex c us h'=>pL h c us h'
 | _=> .no
theorem MH(hf:pg.df f=fI d)(hn:vs.length=d.ps.length):run pg (k+1) f vs h=fin h (d.body (run pg k) (vs.map fI++Sz d.nl ox) h):=by
 rw[run,hf];simp only[if_pos hn];generalize d.body _ _ h=r;cases r with
 | ok g h'=>cases g<;>rfl
 | ex=>rfl
 | no=>rfl
theorem run_eq(hf:pg.fns f=fI d)(hn:vs.length=d.ps.length):run pg (k+1) f vs h=fin h (d.body (run pg k) (vs.map fI++Sz d.nl ox) h):=MH (Aq hf) hn
theorem cK:(RV.ok a h).bind f=f a h:=(rfl)
theorem lM:fin h (.ok (.rt v) h')=settle h v h':=(rfl)
theorem G0[Decidable c]:fin h (if c then a else b)=if c then fin h a else fin h b:=by split<;>rfl
theorem oZ:settle h v h= .ok v h:=by unfold settle;split<;>simp
theorem bj(hv:v.flat=true):settle h v (h++g)= .ok v h:=by unfold settle;rw[hv,k6];simp
theorem aY(hv:v.flat=false):settle h v h'= .ok v h':=by unfold settle;rw[hv];rfl
theorem l9(hv:v.flat=true)(e:h[i]?=fI o)(m:o.dq=o'.dq)(hu:o'.hU h.length=true):settle h v (h.set i o'++g)= .ok v (h.set i o'):=by
 unfold settle;have:bX h.length h (h.set i o'++g)=true:=by
  have h1:=qL hu h _ i o (k6 _ h g) e m
  rwa[Zl _ _ (RY.mp e).1] at h1
 rw[hv,this];simp[List.take_append_of_le_length]
theorem oR{h:PH}{v:PV}{i:Nat}{o o':PO}:settle h v (h.set i o')= .ok v (h.set i o'):=by
 unfold settle;split
 . rw[<- Td,Yt]
 . rfl
theorem aD:SO a=SO b↔a=b:=by
 refine⟨λe=>?_,λe=>by rw[e]⟩;rw[YI,YI] at e;have e1:a.toList.map ZX=b.toList.map ZX:=by
  have:=congrArg (λs:Str=>s.cps.toList) e;simpa using this
 have inj: ∀{l m:List Char},l.map ZX=m.map ZX->l=m:=by
  intro l
  induction l with
  | nil=>intro m h;cases m with | nil=>rfl | cons=>cases h
  | cons x r ih =>
   intro m h
   cases m with
   | nil=>cases h
   | cons y t =>
    simp only[WV,R9] at h
    have:=Char.toNat_inj.mp h.1
    rw[this,ih h.2]
 exact String.toList_inj.mp (inj e1)
end _P
namespace _P
open PySem _L
section
variable{c:CF}{e e1:ay}{h h1:PH}{a b d:ME}{t u:MT}{r:MA}{x y v:PV}{f g:PV->PV->PH->RV PV}{s s':MS}{i n:Nat}
noncomputable def OO(f:PV->PV->PH->RV PV)(b:ME) c e x h1:=(b c e h1).bind λy h2=>f x y h2
theorem aaw:ao f a b c e h=(a c e h).bind (OO f b c e):=rfl
theorem LD:OO f b c e x h1=(b c e h1).bind (f x):=rfl
theorem Pj{f}:Az f a c e h=(a c e h).bind f:=rfl
noncomputable def LG(o:Option (Option PV))(h:PH):RV PV:=match o with
 | some (fI v)=> .ok v h
 | _=> .no
theorem Mi:aa i c e h=LG (e[i]?) h:=rfl
theorem GL:LG (fI (fI v)) h= .ok v h:=rfl
theorem Qw:eC v c e h= .ok v h:=rfl
theorem Mt:ur (.bl p) h= .ok p h:=rfl
noncomputable def EH(b:ME) c e x h1:=if x=true then b c e h1 else .ok (.bl false) h1
theorem Lu:wK a b c e h=((a c e h).bind ur).bind (EH b c e):=rfl
theorem HA:EH b c e true h=b c e h:=rfl
theorem Hz:EH b c e false h= .ok (.bl false) h:=rfl
theorem IH[Decidable p]:EH b c e (decide p) h=if p then b c e h else .ok (.bl false) h:=by unfold EH;by_cases q:p<;>simp[q]
noncomputable def OU(b:ME) c e x h1:=if x=true then .ok (.bl true) h1 else b c e h1
theorem N8:Pz a b c e h=((a c e h).bind ur).bind (OU b c e):=rfl
theorem MJ:OU b c e true h= .ok (.bl true) h:=rfl
theorem Ln:OU b c e false h=b c e h:=rfl
theorem LW[Decidable p]:OU b c e (decide p) h=if p then .ok (.bl true) h else b c e h:=by unfold OU;by_cases q:p<;>simp[q]
noncomputable def OA(x:Bool)(h1:PH):RV PV:= .ok (.bl (!x)) h1
theorem MW:Hr a c e h=((a c e h).bind ur).bind OA:=rfl
theorem Hg:OA p h= .ok (.bl (!p)) h:=rfl
noncomputable def Mu(a b:ME) c e x h1:=if x=true then a c e h1 else b c e h1
theorem NN:vK t a b c e h=(t c e h).bind (Mu a b c e):=rfl
theorem Ko:Mu a b c e true h=a c e h:=rfl
theorem JN:Mu a b c e false h=b c e h:=rfl
theorem Lq[Decidable p]:Mu a b c e (decide p) h=if p then a c e h else b c e h:=by unfold Mu;by_cases q:p<;>simp[q]
theorem KA[Decidable p]:Mu a b c e (!decide p) h=if p then b c e h else a c e h:=by unfold Mu;by_cases q:p<;>simp[q]
theorem L0:aF a c e h=(a c e h).bind ur:=rfl
noncomputable def qf(u:MT) c e x h1:=if x=true then u c e h1 else .ok false h1
theorem FT:iq t u c e h=(t c e h).bind (qf u c e):=rfl
theorem aaC:qf u c e true h=u c e h:=rfl
theorem Es:qf u c e false h= .ok false h:=rfl
theorem DY[Decidable p]:qf u c e (decide p) h=if p then u c e h else .ok false h:=by unfold qf;by_cases q:p<;>simp[q]
theorem CT[Decidable p]:qf u c e (!decide p) h=if p then .ok false h else u c e h:=by unfold qf;by_cases q:p<;>simp[q]
noncomputable def yP(u:MT) c e x h1:=if x=true then .ok true h1 else u c e h1
theorem Nb:Ii t u c e h=(t c e h).bind (yP u c e):=rfl
theorem HV:yP u c e true h= .ok true h:=rfl
theorem FL:yP u c e false h=u c e h:=rfl
theorem F9[Decidable p]:yP u c e (decide p) h=if p then .ok true h else u c e h:=by unfold yP;by_cases q:p<;>simp[q]
theorem abg[Decidable p]:yP u c e (!decide p) h=if p then u c e h else .ok true h:=by unfold yP;by_cases q:p<;>simp[q]
noncomputable def Jn(x:Bool)(h1:PH):RV Bool:= .ok (!x) h1
theorem Hx:uW t c e h=(t c e h).bind Jn:=rfl
theorem C4:Jn p h= .ok (!p) h:=rfl
theorem Il:aK c e h= .ok true h:=rfl
theorem FG:aj c e h= .ok [] h:=rfl
noncomputable def LZ(x:PV)(xs:List PV)(h2:PH):RV (List PV):= .ok (x::xs) h2
noncomputable def M8(r:MA) c e x h1:=(r c e h1).bind (LZ x)
theorem Et:ae a r c e h=(a c e h).bind (M8 r c e):=rfl
theorem Cw:M8 r c e x h=(r c e h).bind (LZ x):=rfl
theorem aag:LZ x xs h= .ok (x::xs) h:=rfl
theorem yJ{r:RV α}(hn:n<=16777216):jD n r=r:=by exact if_pos hn
noncomputable def OR(xs:List PV)(h:PH):RV PV:=jD xs.length (.ok (.tup xs) h)
theorem KY:aw r c e h=(r c e h).bind OR:=rfl
theorem H0:OR xs h=jD xs.length (.ok (.tup xs) h):=(rfl)
noncomputable def NO(xs:List PV)(h:PH):RV PV:=jD xs.length (.ok (.ref h.length) (h++[.lst xs]))
theorem MQ:bA r c e h=(r c e h).bind NO:=rfl
theorem Ga:NO xs h=jD xs.length (.ok (.ref h.length) (h++[.lst xs])):=(rfl)
theorem F7{f}:ai f r c e h=(r c e h).bind (c f):=rfl
theorem aaG{f}:eB f r c e h=(r c e h).bind f:=rfl
noncomputable def Qq(f:PV->List PV->PH->RV PV)(ty:PV->PH->Bool)(r:MA) c e x h1:=if ty x h1=true then(r c e h1).bind (f x) else .no
theorem QR{f}:eM f ty a r c e h=(a c e h).bind (Qq f ty r c e):=rfl
noncomputable def BO(g:PV->PV->PH->RV PV)(d:ME) c e y k h3:=if k=true then(d c e h3).bind (g y) else .ok (.bl false) h3
noncomputable def KP(f g:PV->PV->PH->RV PV) d c e x y h2:=((f x y h2).bind ur).bind (BO g d c e y)
noncomputable def Ov f g (b d:ME) c e x h1:=(b c e h1).bind (KP f g d c e x)
theorem aaD:uE f g a b d c e h=(a c e h).bind (Ov f g b d c e):=rfl
theorem KI:Ov f g b d c e x h=(b c e h).bind (KP f g d c e x):=rfl
theorem aas:KP f g d c e x y h=((f x y h).bind ur).bind (BO g d c e y):=rfl
theorem H4:BO g d c e y true h=(d c e h).bind (g y):=rfl
theorem IA:BO g d c e y false h= .ok (.bl false) h:=rfl
theorem G8[Decidable p]:BO g d c e y (decide p) h=if p then(d c e h).bind (g y) else .ok (.bl false) h:=by unfold BO;by_cases q:p<;>simp[q]
noncomputable def Cj(s:MS) c (f:Fl) (h1:PH):=match f with
 | .nx e1=>s c e1 h1
 | f=> .ok f h1
theorem D9:ag s s' c e h=(s c e h).bind (Cj s' c):=rfl
theorem Ao:Cj s c (.nx e) h=s c e h:=(rfl)
theorem Hj:Cj s c (.rt v) h= .ok (.rt v) h:=rfl
theorem Hn:Cj s c (.bk e) h= .ok (.bk e) h:=rfl
theorem GX:Cj s c (.ct e) h= .ok (.ct e) h:=rfl
theorem Oq:cD c e h= .ok (.nx e) h:=rfl
noncomputable def Rn(e:ay)(_:PV)(h1:PH):RV Fl:= .ok (.nx e) h1
theorem FK:cf a c e h=(a c e h).bind (Rn e):=rfl
theorem Ex:Rn e x h= .ok (.nx e) h:=rfl
noncomputable def NJ(v:PV)(h1:PH):RV Fl:= .ok (.rt v) h1
theorem Lp:aA a c e h=(a c e h).bind NJ:=rfl
theorem GB:NJ v h= .ok (.rt v) h:=rfl
noncomputable def zd(s s':MS) c e x h1:=if x=true then s c e h1 else s' c e h1
theorem KL:bS t s s' c e h=(t c e h).bind (zd s s' c e):=rfl
theorem Iu:zd s s' c e true h=s c e h:=rfl
theorem G6:zd s s' c e false h=s' c e h:=rfl
theorem GQ[Decidable p]:zd s s' c e (decide p) h=if p then s c e h else s' c e h:=by unfold zd;by_cases q:p<;>simp[q]
theorem HE[Decidable p]:zd s s' c e (!decide p) h=if p then s' c e h else s c e h:=by unfold zd;by_cases q:p<;>simp[q]
noncomputable def Lg(e1:ay)(h2:PH):RV Fl:= .ok (.nx e1) h2
noncomputable def Mx(g:MG) e v h1:=(g v e h1).bind Lg
theorem ML{g}:ak a g c e h=(a c e h).bind (Mx g e):=rfl
theorem Ic:Mx (gN i) e v h= .ok (.nx (e.set i (fI v))) h:=rfl
theorem aao:Mx (gT n gs) e v h=(gT n gs v e h).bind Lg:=rfl
theorem Mp:Lg e h= .ok (.nx e) h:=rfl
theorem Ja:gN i v e h= .ok (e.set i (fI v)) h:=rfl
theorem NY(hn:xs.length=n):gT n gs (.tup xs) e h=gs xs e h:=if_pos hn
theorem Kz:gT 2 gs (.tup [x1,x2]) e h=gs [x1,x2] e h:=rfl
theorem M1:gT 3 gs (.tup [x1,x2,x3]) e h=gs [x1,x2,x3] e h:=rfl
theorem aad:gT 4 gs (.tup [x1,x2,x3,x4]) e h=gs [x1,x2,x3,x4] e h:=rfl
theorem J0:gT 5 gs (.tup [x1,x2,x3,x4,x5]) e h=gs [x1,x2,x3,x4,x5] e h:=rfl
theorem Kk:bN [] e h= .ok e h:=rfl
theorem JR{g r t}:ax g r (v::t) e h=(g v e h).bind (r t):=rfl
noncomputable def Ea(f:PV->PV->PV->PH->RV Unit)(e:ay)(v x y:PV)(h3:PH):RV Fl:=(f x y v h3).bind λ_ h4=> .ok (.nx e) h4
noncomputable def De f (i:ME) c e v x h2:=(i c e h2).bind (Ea f e v x)
noncomputable def Jq f (o i:ME) c e v h1:=(o c e h1).bind (De f i c e v)
theorem MD{f i}:gW f o i a c e h=(a c e h).bind (Jq f o i c e):=rfl
theorem Hi{f i}:Jq f o i c e v h=(o c e h).bind (De f i c e v):=rfl
theorem Hl{f i}:De f i c e v x h=(i c e h).bind (Ea f e v x):=rfl
noncomputable def Q1(e:ay)(_:Unit)(h:PH):RV Fl:= .ok (.nx e) h
theorem aaO{f}:Ea f e v x y h=(f x y v h).bind (Q1 e):=rfl
theorem LM{u}:Q1 e u h= .ok (.nx e) h:=rfl
noncomputable def aW(g:MG)(s:MS) c x e h:=(g x e h).bind (s c)
noncomputable def fork g s c e it h1:=bK it (aW g s c) it.items e h1
theorem C6{i g}:jv i g s c e h=(i c e h).bind (fork g s c e):=(rfl)
theorem AR{g}:fork g s c e it h=bK it (aW g s c) it.items e h:=(rfl)
theorem E2{g}:aW g s c x e h=(g x e h).bind (s c):=(rfl)
theorem Mc:iC a c e h=(a c e h).bind lA:=(rfl)
theorem LR:lA (.tup xs) h= .ok ⟨ox,xs⟩ h:=(rfl)
theorem Mr:lA (.ktup xs) h= .ok ⟨ox,xs⟩ h:=(rfl)
noncomputable def PM(n:Nat)(h:PH)(o:Option PO):RV kC:=match o with
 | some (.lst xs)=> .ok ⟨fI n,xs⟩ h
 | some (.fro xs)=> .ok ⟨fI n,xs⟩ h
 | _=> .no
theorem jI:lA (.ref n) h=PM n h (h[n]?):=by
 have e:lA (.ref n) h=(match br h n with | some xs=> .ok _ h | none=> .no):=rfl;rw[e];unfold br PM;generalize h[n]?=oo;cases oo with
 | none=>rfl
 | some o=>cases o<;>rfl
theorem lK:PM n h (fI (.lst xs))= .ok ⟨fI n,xs⟩ h:=(rfl)
theorem LX:PM n h (fI (.fro xs))= .ok ⟨fI n,xs⟩ h:=(rfl)
noncomputable def Rk(vs:List PV)(h1:PH):RV kC:=match vs with
 | [.int j]=>if -(2 ^ 62)<=j/\j < 2 ^ 62 then .ok ⟨ox,aJ 0 j.toNat⟩ h1 else .no
 | _=> .no
theorem DA:cY r c e h=(r c e h).bind Rk:=by
 rfl
theorem AD(hj: -4611686018427387904<=j/\j < 4611686018427387904):Rk [.int j] h= .ok ⟨ox,aJ 0 j.toNat⟩ h:=by
 exact if_pos (by lia)
noncomputable def PX(x y:PV)(h2:PH):RV kC:=match x.seq?,y.seq? with
 | some xs,fI ys=> .ok ⟨ox,(xs.zip ys).map λp=> .tup [p.1,p.2]⟩ h2
 | _,_=> .no
noncomputable def Rp(b:ME) c e x h1:=(b c e h1).bind (PX x)
theorem Lj:Ms a b c e h=(a c e h).bind (Rp b c e):=(rfl)
theorem HY:Rp b c e x h=(b c e h).bind (PX x):=(rfl)
theorem E7:PX (.ktup xs) (.tup ys) h= .ok ⟨ox,(xs.zip ys).map λp=> .tup [p.1,p.2]⟩ h:=(rfl)
theorem aa2:PX (.tup xs) (.tup ys) h= .ok ⟨ox,(xs.zip ys).map λp=> .tup [p.1,p.2]⟩ h:=(rfl)
noncomputable def PE it step xs (f:Fl) (h1:PH):=match f with
 | .nx e1=>bK it step xs e1 h1
 | .ct e1=>bK it step xs e1 h1
 | .bk e1=> .ok (.nx e1) h1
 | .rt v=> .ok (.rt v) h1
theorem jy{step}:bK ⟨ox,xs⟩ step [] e h= .ok (.nx e) h:=(rfl)
theorem fN{step}:bK ⟨ox,xs⟩ step (y::ys) e h=(step y e h).bind (PE ⟨ox,xs⟩ step ys):=(rfl)
theorem mL{step}(hf:it.ir h=true):bK it step [] e h= .ok (.nx e) h:=by rw[bK,if_pos hf]
theorem gY{step}(hf:it.ir h=true):bK it step (y::ys) e h=(step y e h).bind (PE it step ys):=by rw[bK,if_pos hf];rfl
theorem bL{step}:PE it step xs (.nx e) h=bK it step xs e h:=(rfl)
theorem HL{step}:PE it step xs (.rt v) h= .ok (.rt v) h:=(rfl)
noncomputable def My(ys:List PV)(h2:PH):RV PV:= .ok (.ref h2.length) (h2++[.lst ys])
noncomputable def NB k g t a c e it h1:=(dU it (aM k g t a c e) it.items [] h1).bind My
theorem NT{i g}:hW k i g t a c e h=(i c e h).bind (NB k g t a c e):=(rfl)
theorem Lf{g}:NB k g t a c e it h=(dU it (aM k g t a c e) it.items [] h).bind My:=(rfl)
theorem Mo:My ys h= .ok (.ref h.length) (h++[.lst ys]):=(rfl)
noncomputable def D6(y:PV)(h4:PH):RV (Option PV):= .ok (fI y) h4
noncomputable def xF(a:ME) c e2 b h3:=if b=true then(a c e2 h3).bind D6 else .ok ox h3
noncomputable def Oe(t:MT) a c e2 h2:=(t c e2 h2).bind (xF a c e2)
theorem OE{g}:aM k g t a c e x h=(g x (e++Sz k ox) h).bind (Oe t a c):=(rfl)
theorem LN:Oe t a c e h=(t c e h).bind (xF a c e):=(rfl)
theorem Ge:xF a c e true h=(a c e h).bind D6:=(rfl)
theorem Gu:xF a c e false h= .ok ox h:=(rfl)
theorem HQ[Decidable p]:xF a c e (decide p) h=if p then(a c e h).bind D6 else .ok ox h:=by unfold xF;by_cases q:p<;>simp[q]
theorem Hp[Decidable p]:xF a c e (!decide p) h=if p then .ok ox h else(a c e h).bind D6:=by unfold xF;by_cases q:p<;>simp[q]
theorem Lb:D6 y h= .ok (fI y) h:=(rfl)
theorem cM{α :Type}{it:kC}(hf:it.ir h=true){step:PV->PH->RV (Option PV)}{f: α ->Option PV}{g: α ->PV}: ∀(l:List α)(ys:List PV),(∀ x∈l,step (g x) h= .ok (f x) h)->l.length+ys.length<=16777216->dU it step (l.map g) ys h= .ok (ys++l.filterMap f) h
 | [],ys,_,_=>by rw[SF,dU,if_pos hf];simp
 | x::xs,ys,hs,hl=>by
  have hl':ys.length < sizeLine:=by rw[Sb] at hl;show ys.length < 16777216;lia
  rw[R9,dU,if_pos ⟨hf,hl'⟩,hs x So];cases q:f x with
  | none=>exact(cM hf xs ys (λy m=>hs y (Sk _ m)) (by grind)).trans (by rw[U7 q])
  | some y=>exact(cM hf xs _ (λz m=>hs z (Sk _ m)) (by rw[Sb] at hl;simp;lia)).trans (by rw[U8 q];simp)
end
section
variable{h:PH}{i j:Int}{a b:Str}{x y z w u v:PV}{r xs ys:List PV}{p q:Bool}{n m:Nat}
theorem HB:sP (.int i) (.int j) h= .ok (.int (i - j)) h:=(rfl)
theorem FX:aV (.int i) (.int j) h= .ok (.int (i+j)) h:=(rfl)
theorem iT(hl:xs.length+ys.length<=16777216):aV (.tup xs) (.tup ys) h= .ok (.tup (xs++ys)) h:=yJ hl
theorem mK(e1:h[n]?=fI (.lst xs))(e2:h[m]?=fI (.lst ys))(hl:xs.length+ys.length<=16777216):aV (.ref n) (.ref m) h= .ok (.ref h.length) (h++[.lst (xs++ys)]):=by
 unfold aV;simp only[e1,e2];exact yJ (by simpa using hl)
theorem It(hj:0 < j):oJ (.int i) (.int j) h= .ok (.int (i % j)) h:=by unfold oJ p2;simp[hj,By,d9]
theorem Hh(hj:0<=j/\j<=1000000/\i.natAbs < 18446744073709551616):F8 (.int i) (.int j) h= .ok (.int (i ^ j.toNat)) h:=by
 unfold F8 p2;simp only;rw[if_pos (by omega)];rfl
theorem Hc(hi: -18446744073709551616 < i/\i < 18446744073709551616):dH (.int i) (.int j) h= .ok (.int (i*j)) h:=if_pos (.inl (by omega))
theorem vE(hj: -18446744073709551616 < j/\j < 18446744073709551616):dH (.int i) (.int j) h= .ok (.int (i*j)) h:=if_pos (.inr (by omega))
theorem Mw:AQ (.int i) (.int j) h= .ok (.bl (decide (i < j))) h:=(rfl)
theorem KO:NP (.int i) (.int j) h= .ok (.bl (decide (i<=j))) h:=(rfl)
theorem Mh:NA (.int i) (.int j) h= .ok (.bl (decide (j < i))) h:=(rfl)
theorem KR:Pb (.int i) (.int j) h= .ok (.bl (decide (j<=i))) h:=(rfl)
theorem Jv{b}(hs:jR x y=true)(hb:decide (x=y)=b):eE x y h= .ok (.bl b) h:=by unfold eE alike;rw[if_pos hs,hb]
theorem Jc{b}(hs:jR x y=true)(hb:decide (x=y)=b)(hd:iL h x=false):kR x y h= .ok (.bl (!b)) h:=by unfold kR alike;rw[if_pos hs,hb,hd];rfl
theorem F3:eE (.str a) (.str b) h= .ok (.bl (decide (a=b))) h:=Jv rfl (decide_eq_decide.mpr (by simp))
theorem Al:eE (.int i) (.int j) h= .ok (.bl (decide (i=j))) h:=Jv rfl (decide_eq_decide.mpr (by simp))
theorem Hq:kR (.str a) (.str b) h= .ok (.bl (!decide (a=b))) h:=Jc rfl (decide_eq_decide.mpr (by simp)) rfl
theorem Ip:kR (.int i) (.int j) h= .ok (.bl (!decide (i=j))) h:=Jc rfl (decide_eq_decide.mpr (by simp)) rfl
theorem kI:aE (.tup (x::r)) (.int 0) h= .ok x h:=by
 simp only[aE,fK,uQ];rw[if_pos (by decide),if_pos (by simp_all)];rfl
theorem ig:aE (.tup (x::y::r)) (.int 1) h= .ok y h:=by
 simp only[aE,fK,uQ];rw[if_pos (by decide),if_pos (by simp only[Sb];lia)];rfl
theorem xO:aE (.tup (x::y::z::r)) (.int 2) h= .ok z h:=by
 simp only[aE,fK,uQ];rw[if_pos (by decide),if_pos (by simp only[Sb];omega)];rfl
theorem Cd:aE (.tup (x::y::z::w::r)) (.int 3) h= .ok w h:=by
 simp only[aE,fK,uQ];rw[if_pos (by decide),if_pos (by simp only[Sb];omega)];rfl
theorem uk:aE (.tup (x::y::z::w::u::r)) (.int 4) h= .ok u h:=by
 simp only[aE,fK,uQ];rw[if_pos (by decide),if_pos (by simp only[Sb];omega)];rfl
theorem Nd:aE (.tup (x::y::z::w::u::v::r)) (.int 5) h= .ok v h:=by
 simp only[aE,fK,uQ];rw[if_pos (by decide),if_pos (by simp only[Sb];omega)];rfl
theorem jX(e:fK xs i=fI v):aE (.tup xs) (.int i) h= .ok v h:=by simp only[aE,e]
theorem dS{xs}(e:i=(n)){v: α}(q:xs[n]?=fI v):fK xs i=fI v:=by
 have hl:=(RY.mp q).1;subst e;unfold fK uQ;rw[if_pos (by lia),if_pos (by lia)];simpa using q
noncomputable def Ls(y:PV)(h:PH)(o:Option PO):RV PV:=match o with
 | some (.bu kvs)=>(match jT y with
  | some k=>(match c9 kvs k with | some v=> .ok v h | none=> .no)
  | none=> .no)
 | some (.lst xs)=>(match y with
  | .int i=>(match fK xs i with | some v=> .ok v h | none=> .no)
  | _=> .no)
 | some (.fro xs)=>(match y with
  | .int i=>(match fK xs i with | some v=> .ok v h | none=> .no)
  | _=> .no)
 | _=> .no
theorem oM:aE (.ref n) y h=Ls y h (h[n]?):=by
 rfl
noncomputable def N0(h:PH)(o:Option PV):RV PV:=match o with
 | some v=> .ok v h
 | none=> .no
theorem QM:Ls (.str a) h (fI (.bu kvs))=N0 h (c9 kvs (.inr a)):=(rfl)
theorem ph:Ls (.int i) h (fI (.lst xs))=N0 h (fK xs i):=(rfl)
theorem Px:Ls (.int i) h (fI (.fro xs))=N0 h (fK xs i):=(rfl)
theorem Hb:N0 h (fI v)= .ok v h:=(rfl)
theorem AN{kvs:List (Key × PV)}:c9 ((k,v)::kvs) k=fI v:=by simp[c9]
theorem Ds{kvs:List (Key × PV)}(ne:k'≠k):c9 ((k',v)::kvs) k=c9 kvs k:=by simp[c9,ne]
noncomputable def Eu(n:Nat)(y v:PV)(h:PH)(o:Option PO):RV Unit:=match o with
 | some (.bu kvs)=>(match jT y with
  | some k=>if kvs.length < sizeLine then .ok () (h.set n (.bu (jm kvs k v))) else .no
  | none=> .no)
 | some (.lst xs)=>(match y with
  | .int i=>(match uQ xs.length i with | some j=> .ok () (h.set n (.lst (xs.set j v))) | none=> .no)
  | _=> .no)
 | _=> .no
theorem Jr:fD (.ref n) y v h=Eu n y v h (h[n]?):=by
 rfl
theorem mP(hl:kvs.length < 16777216):Eu n (.str a) v h (fI (.bu kvs))= .ok () (h.set n (.bu (jm kvs (.inr a) v))):=if_pos hl
theorem mY(e:i=(m))(hm:m < xs.length):Eu n (.int i) v h (fI (.lst xs))= .ok () (h.set n (.lst (xs.set m v))):=by
 have:uQ xs.length i=fI m:=by unfold uQ;rw[if_pos (by omega),if_pos (by omega)];congr 1;omega
 simp only[Eu,this]
noncomputable def Q6(n:Nat)(v:PV)(h:PH)(o:Option PO):RV PV:=match o with
 | some (.lst xs)=>if xs.length < sizeLine then .ok .non (h.set n (.lst (xs++[v]))) else .no
 | _=> .no
theorem Ky:aS (.ref n) [v] h=Q6 n v h (h[n]?):=by
 rfl
theorem pA(hl:xs.length < 16777216):Q6 n v h (fI (.lst xs))= .ok .non (h.set n (.lst (xs++[v]))):=if_pos hl
theorem len_T:bG [.tup xs] h= .ok (.int xs.length) h:=(rfl)
theorem Oc(e:h[n]?=fI (.fro xs)):bG [.ref n] h= .ok (.int xs.length) h:=by simp[bG,itemsOf,br,e]
theorem Fh:kS [.tup xs] h= .ok (.ref h.length) (h++[.lst xs]):=(rfl)
theorem Oy:vW [.bl p] h= .ok (.int (if p then 1 else 0)) h:=(rfl)
theorem OX:gX false .non h= .ok (.bl true) h:=(rfl)
theorem NV:gX false (.int i) h= .ok (.bl false) h:=by simp[gX]
theorem Jz:gX false (.tup xs) h= .ok (.bl false) h:=by simp[gX]
theorem aaj:gX true .non h= .ok (.bl false) h:=(rfl)
section
variable{c:CF}{e:ay}{d k1 k2:ME}{rr:MA}{kvs:List (Key × PV)}{ff:PV->List PV->PH->RV PV}
noncomputable def Ru(a:Str)(z:PV)(h:PH)(o:Option PO):RV PV:=match o with
 | some (.bu kvs)=> .ok ((c9 kvs (.inr a)).getD z) h
 | _=> .no
noncomputable def QF(x y z:PV)(h3:PH):RV PV:=match x,jT y with
 | .ref n,fI key=>(match h3[n]? with
  | some (.bu kvs)=> .ok ((c9 kvs key).getD z) h3
  | _=> .no)
 | _,_=> .no
noncomputable def PD(b:ME) c e x y h2:=(b c e h2).bind (QF x y)
noncomputable def QO(a b:ME) c e x h1:=if iL h1 x=true then(a c e h1).bind (PD b c e x) else .no
noncomputable def Qc(a b:ME) c e n h (o:Option PO):=match o with
 | some (.bu _)=>(a c e h).bind (PD b c e (.ref n))
 | _=> .no
theorem aab:AV d k1 k2 c e h=(d c e h).bind (QO k1 k2 c e):=(rfl)
theorem GS:QO k1 k2 c e (.ref n) h=Qc k1 k2 c e n h (h[n]?):=by
 unfold QO Qc iL;cases q:h[n]? with
 | none=>simp[q]
 | some o=>cases o<;>simp[q]
theorem CL:Qc k1 k2 c e n h (fI (.bu kvs))=(k1 c e h).bind (PD k2 c e (.ref n)):=(rfl)
theorem Gn:PD k2 c e x y h=(k2 c e h).bind (QF x y):=(rfl)
theorem aaK:QF (.ref n) (.str a) z h=Ru a z h (h[n]?):=by
 rfl
theorem EV:Ru a z h (fI (.bu kvs))= .ok ((c9 kvs (.inr a)).getD z) h:=(rfl)
noncomputable def Qj(f:PV->List PV->PH->RV PV)(r:MA) c e n h (o:Option PO):=match o with
 | some (.lst _)=>(r c e h).bind (f (.ref n))
 | _=> .no
theorem OF:Qq ff bD rr c e (.ref n) h=Qj ff rr c e n h (h[n]?):=by
 unfold Qq Qj bD;cases q:h[n]? with
 | none=>simp[q]
 | some o=>cases o<;>simp[q]
theorem Ku:Qj ff rr c e n h (fI (.lst xs))=(rr c e h).bind (ff (.ref n)):=(rfl)
noncomputable def NF(ys:List PV)(h:PH)(o:Option (List (Key × PV))):RV PV:=match o with
 | some kvs=>if ys.length < sizeLine then .ok (.ref h.length) (h++[.bu (cE [] kvs)]) else .no
 | none=> .no
theorem Mn:wQ [.tup ys] h=NF ys h (k8 ys):=by
 rfl
theorem MK(hl:ys.length < 16777216):NF ys h (fI kvs)= .ok (.ref h.length) (h++[.bu (cE [] kvs)]):=if_pos hl
theorem Dt:uz c e h= .ok (.ref h.length) (h++[.bu []]):=(rfl)
end
noncomputable def QA(h:PH)(o:Option PO):RV PV:=match o with
 | some (.lst xs)=> .ok (.tup xs) h
 | some (.fro xs)=> .ok (.tup xs) h
 | _=> .no
theorem jb:aQ [.ref n] h=QA h (h[n]?):=by
 unfold QA;cases q:h[n]? with
 | none=>simp[aQ,br,q]
 | some o=>cases o<;>simp[aQ,br,q]
theorem gB:QA h (fI (.lst xs))= .ok (.tup xs) h:=(rfl)
noncomputable def QT(h:PH)(o:Option PO):RV PV:=match o with
 | some (.lst xs)=> .ok (.int xs.length) h
 | some (.fro xs)=> .ok (.int xs.length) h
 | some (.bu kvs)=> .ok (.int kvs.length) h
 | _=> .no
theorem qP:bG [.ref n] h=QT h (h[n]?):=by
 unfold QT;cases q:h[n]? with
 | none=>simp[bG,itemsOf,br,q]
 | some o=>cases o<;>simp[bG,itemsOf,br,q]
theorem lx:QT h (fI (.lst xs))= .ok (.int xs.length) h:=(rfl)
theorem jJ: ∀{ss:List Str},((ss.map PV.str).any λz=>EA z (.str a))=decide (a∈ss)
 | []=>by simp
 | x::t=>by
  rw[R9,VT,jJ];by_cases e:x=a
  . subst e;simp[show EA (.str x) (.str x)=(x == x) from rfl]
  . have e': ¬ a=x:=λz=>e z.symm;simp[show EA (.str x) (.str a)=(x == a) from rfl,e,e']
theorem all_strs: ∀{ss:List Str},((ss.map PV.str).all iN)=true
 | []=>rfl
 | x::t=>by rw[R9,XW,all_strs];rfl
theorem yU{ss:List Str}:jE (.str a) (.tup (ss.map PV.str)) h= .ok (.bl (decide (a∈ss))) h:=by
 have:isIn (.str a) (.tup (ss.map PV.str)) h=fI (decide (a∈ss)):=by
  unfold isIn;simp only[itemsOf,all_strs,iN,VS,if_true,jJ]
 unfold jE;rw[this]
theorem Ac{ss:List Str}:lu (.str a) (.tup (ss.map PV.str)) h= .ok (.bl (!decide (a∈ss))) h:=by
 have:isIn (.str a) (.tup (ss.map PV.str)) h=fI (decide (a∈ss)):=by
  unfold isIn;simp only[itemsOf,all_strs,iN,VS,if_true,jJ]
 unfold lu;rw[this]
theorem in_K{ss:List Str}:jE (.str a) (.ktup (ss.map PV.str)) h= .ok (.bl (decide (a∈ss))) h:=by
 have:isIn (.str a) (.ktup (ss.map PV.str)) h=fI (decide (a∈ss)):=by
  unfold isIn;simp only[itemsOf,all_strs,iN,VS,if_true,jJ]
 unfold jE;rw[this]
section
variable{c:CF}{e:ay}{d:ME}{kvs:List (Key × PV)}
noncomputable def Q4(kvs:List (Key × PV))(x:PV)(h:PH):RV PV:=match jT x with
 | some key=>(match c9 kvs key with
  | some v=> .ok v h
  | none=> .no)
 | none=> .no
theorem Pq:tW kvs d c e h=(d c e h).bind (Q4 kvs):=(rfl)
theorem KV:Q4 kvs (.str a) h=N0 h (c9 kvs (.inr a)):=(rfl)
end
section
variable{c:CF}{e:ay}{d:ME}{l uu:MO}
noncomputable def LF(uu:MO) c e x lo h:=(uu c e h).bind (yf x lo)
noncomputable def OZ(l uu:MO) c e x h:=(l c e h).bind (LF uu c e x)
theorem N1:t9 d l uu c e h=(d c e h).bind (OZ l uu c e):=(rfl)
theorem LO:OZ l uu c e x h=(l c e h).bind (LF uu c e x):=(rfl)
theorem aaQ{lo}:LF uu c e x lo h=(uu c e h).bind (yf x lo):=(rfl)
theorem OQ:fR c e h= .ok ox h:=(rfl)
noncomputable def Q7(v:PV)(h1:PH):RV (Option Int):=match v with
 | .int i=> .ok (fI i) h1
 | _=> .no
theorem aaa:cL d c e h=(d c e h).bind Q7:=(rfl)
theorem JK:Q7 (.int i) h= .ok (fI i) h:=(rfl)
theorem Cy{lo}:yf (.tup xs) lo hi h= .ok (.tup (fQ xs lo hi)) h:=(rfl)
noncomputable def QC(lo hi:Option Int)(h:PH)(o:Option PO):RV PV:=match o with
 | some (.lst xs)=> .ok (.ref h.length) (h++[.lst (fQ xs lo hi)])
 | some (.fro xs)=> .ok (.ref h.length) (h++[.lst (fQ xs lo hi)])
 | _=> .no
theorem N7{lo}:yf (.ref n) lo hi h=QC lo hi h (h[n]?):=by
 unfold QC;cases q:h[n]? with
 | none=>simp[yf,br,q]
 | some o=>cases o<;>simp[yf,br,q]
theorem Jl{lo}:QC lo hi h (fI (.lst xs))= .ok (.ref h.length) (h++[.lst (fQ xs lo hi)]):=(rfl)
theorem mH{lo}(h0:0<=lo):fQ xs (fI lo) ox=xs.drop lo.toNat:=by
 have e:lo=((lo.toNat)):=by lia
 unfold fQ;rw[e,_H.pM,_H.wj];simp only[SQ];rcases L8 lo.toNat xs.length with z | z
 . grind
 . rw[vb z,UG z];simp
theorem qz(h0:0<=hi):fQ xs ox (fI hi)=xs.take hi.toNat:=by
 have e:hi=((hi.toNat)):=by lia
 unfold fQ;rw[e,_H.pM,_H.wj];simp only[SQ,qx,Nat.sub_zero];rcases L8 _ _ with z | z
 . rw[WW z]
 . rw[vb z,Wi (Si _),Wi z]
theorem Ai{lo}(h0:0<=lo)(h1:0<=hi):fQ xs (fI lo) (fI hi)=(xs.take hi.toNat).drop lo.toNat:=by
 have e:lo=((lo.toNat)):=by lia
 have e':hi=((hi.toNat)):=by lia
 unfold fQ;rw[e,e',_H.pM,_H.pM];simp only[SQ];apply XJ;intro j;simp only[Xh,List.getElem?_drop];by_cases z:j < min hi.toNat xs.length - min lo.toNat xs.length
 . rw[if_pos z,if_pos (by lia),WW (by lia)]
 . rw[if_neg z];split
   . symm;exact Tn (by lia)
   . rfl
end
variable{o o':PO}{g:PH}{k:Nat}
theorem aT:(h++(o::g))[h.length]?=fI o:=by rw[S8 (Si _)];simp
theorem aP:(h++g)[h.length+k]?=g[k]?:=by rw[S8 (by lia)];congr 1;lia
theorem aq(hn:n < h.length):(h++g)[n]?=h[n]?:=TQ hn
theorem iG:(h++g).set h.length o=h++g.set 0 o:=by simp
theorem zL:(h++g).set (h.length+k) o=h++g.set k o:=by simp_all
theorem aC(e:h[n]?=fI o):n < h.length:=(RY.mp e).1
end
end _P
namespace _P
open PySem _L
section
variable{h:PH}{i j:Int}{a b:Str}{x y z w u v:PV}{r xs ys:List PV}{p q:Bool}{n m:Nat}
theorem Ml:sC [.int i,.ty "bool"] h= .ok (.bl false) h:=(rfl)
theorem L9:sC [.int i,.ty "int"] h= .ok (.bl true) h:=(rfl)
theorem zZ: ∀ bs ,yW (bs.map PV.bl)=fI bs
 | []=>rfl
 | b::r=>by rw[R9,yW,zZ r];rfl
theorem xM: ∀ bs ,qV (bs.map PV.int)=fI bs
 | []=>rfl
 | b::r=>by rw[R9,qV,xM r];rfl
theorem aay{bs:List Bool}(e:h[n]?=fI (.lst (bs.map PV.bl))):Ff [.ref n] h= .ok (.bl (bs.all id)) h:=by
 simp[Ff,Ew,br,e,zZ]
theorem sQ:fK (x::r) 0=fI x:=by simp only[fK,uQ];rw[if_pos (by decide),if_pos (by simp_all)];rfl
theorem yV:fK (x::y::r) 1=fI y:=by simp only[fK,uQ];rw[if_pos (by decide),if_pos (by simp only[Sb];omega)];rfl
theorem y6:fK (x::y::z::r) 2=fI z:=by simp only[fK,uQ];rw[if_pos (by decide),if_pos (by simp only[Sb];omega)];rfl
theorem Dl:fK (x::y::z::w::r) 3=fI w:=by simp only[fK,uQ];rw[if_pos (by decide),if_pos (by simp only[Sb];omega)];rfl
end
section
variable{c:CF}{e:ay}{h h1:PH}{a b:ME}{r:MP}{x y v:PV}{kvs:List (Key × PV)}{key:Key}{s:Str}{i:Int}{n:Nat}
noncomputable def Nv(n:Nat)(kvs:List (Key × PV))(h1:PH):RV PV:=if h1[n]?=fI (.bu [])/\kvs.length<=15 then .ok (.ref n) (h1.set n (.bu (cE [] kvs))) else .no
noncomputable def Qt(key:Key)(v:PV)(kvs:List (Key × PV))(h3:PH):RV (List (Key × PV)):= .ok ((key,v)::kvs) h3
noncomputable def Qh key (r:MP) c e v h2:=(r c e h2).bind (Qt key v)
noncomputable def Rq(b:ME)(r:MP)(c:CF)(e:ay)(x:PV)(h1:PH):RV (List (Key × PV)):=match jT x with
 | some key=>(b c e h1).bind (Qh key r c e)
 | none=> .no
theorem nF:wA r c e h=(r c e (h++[.bu []])).bind (Nv h.length):=(rfl)
theorem qM:DW c e h= .ok [] h:=(rfl)
theorem qe:fS a b r c e h=(a c e h).bind (Rq b r c e):=(rfl)
theorem ni:Rq b r c e (.str s) h=(b c e h).bind (Qh (.inr s) r c e):=(rfl)
theorem qv:Qh key r c e v h=(r c e h).bind (Qt key v):=(rfl)
theorem rh:Qt key v kvs h= .ok ((key,v)::kvs) h:=(rfl)
theorem EF(h1:h[n]?=fI (.bu []))(h2:kvs.length<=15):Nv n kvs h= .ok (.ref n) (h.set n (.bu (cE [] kvs))):=if_pos ⟨h1,h2⟩
theorem AK(h2:kvs.length<=15):Nv h.length kvs (h++[.bu []])= .ok (.ref h.length) (h++[.bu (cE [] kvs)]):=by
 rw[EF aT h2,iG];rfl
end
end _P
namespace _P
open PySem PySem.Spec PyProof.Rows _L
end _P
namespace _P
open PySem PySem.Spec PyProof.Rows _L
section
variable{α :Type}{p:List α ->Prop}
theorem RB(h:p []): ∀ us:List α,us.length=0->p us:=λus e=>by simp_all
theorem Ow{n:Nat}(h: ∀ a: α,∀ us:List α,us.length=n->p (a::us)): ∀ us:List α,us.length=n+1->p us:=λus e=>by
 cases us with
 | nil=>simp at e
 | cons a r=>exact h a r (by simpa using e)
theorem Q8(h: ∀ a,p [a]): ∀ us:List α,us.length=1->p us:=Ow λa=>RB (h a)
theorem Q2(h: ∀ a b,p [a,b]): ∀ us:List α,us.length=2->p us:=Ow λa=>Q8 (h a)
theorem Rc(h: ∀ a b c,p [a,b,c]): ∀ us:List α,us.length=3->p us:=Ow λa=>Q2 (h a)
theorem Q5(h: ∀ a b c d,p [a,b,c,d]): ∀ us:List α,us.length=4->p us:=Ow λa=>Rc (h a)
theorem RD(h: ∀ a b c d e,p [a,b,c,d,e]): ∀ us:List α,us.length=5->p us:=Ow λa=>Q5 (h a)
end
end _P
namespace _L
open PySem PySem.Spec PyProof.Rows
theorem yq{ss:List Str}(h:a∈ss):ss.idxOf a < ss.length:=List.idxOf_lt_length_iff.mpr h
end _L
namespace _P
open PySem PySem.Spec PyProof.Rows _L
section
variable{pg:Tb}{k:Nat}
theorem tM{α β :Type}(f: α -> β): ∀(l:List α) i,(l.map f).eraseIdx i=(l.eraseIdx i).map f
 | [],i=>by simp
 | a::r,0=>rfl
 | a::r,i+1=>by simp[tM f r i]
noncomputable def zX(ss:List Str) a:=ss.eraseIdx (ss.idxOf a)
noncomputable def nE:PV->List PV->PH->RV PV:=λx vs h=>match x,vs with
 | .ref n,[.str a]=>(match h[n]? with
  | some (.lst xs)=>(match eG xs with
   | some ss=>if a∈ss then .ok .non (h.set n (.lst ((zX ss a).map PV.str))) else .no
   | none=> .no)
  | _=> .no)
 | _,_=> .no
end
section
variable{h:PH}{n:Nat}{ss:List Str}{a:Str}{y:PV}{r:List PV}
theorem Qf(e:h[n]?=fI (.lst (ss.map PV.str)))(ha:a∈ss):nE (.ref n) [.str a] h= .ok .non (h.set n (.lst ((zX ss a).map PV.str))):=by
 simp only[nE,e,dK,if_pos ha]
end
section
variable{pg:Tb}{k i:Nat}{e:Tr}{x:Str}{ma:ME}{pos pos':Pos}
noncomputable def DC:PV->PV->PH->RV PV:=λx y h=>match x,y with
 | .int a,.int b=> .ok (.int (a+b)) h
 | _,_=> .no
end
end _P
namespace _P
open PySem PySem.Spec PyProof.Rows _L
section
variable{pg:Tb}{k:Nat}{a:Tr}{ma:ME}{p pos:Pos}{els:List Tr}{j:Nat}{tpos:Pos}
noncomputable def ES(a:ME):MI:=λc e h=>(a c e h).bind λx h1=>match x.seq? with
 | some xs=> .ok ⟨ox,xs.zipIdx.map λq=> .tup [.int (q.2),q.1]⟩ h1
 | none=> .no
end
section
variable{c:CF}{e:ay}{h:PH}{a:ME}{xs:List PV}
noncomputable def Ra(x:PV)(h1:PH):RV kC:=match x.seq? with
 | some xs=> .ok ⟨ox,xs.zipIdx.map λq=> .tup [.int (q.2),q.1]⟩ h1
 | none=> .no
theorem G9:ES a c e h=(a c e h).bind Ra:=(rfl)
theorem Fj:Ra (.tup xs) h= .ok ⟨ox,xs.zipIdx.map λq=> .tup [.int (q.2),q.1]⟩ h:=(rfl)
end
end _P
namespace _P
open PySem PySem.Spec PyProof.Rows _L
section
variable{pg:Tb}{k:Nat}
variable{a:Tr}{mr:MA}{p p2 p3 pos:Pos}
noncomputable def QX(mr:MA):ME:=λc e h=>(mr c e h).bind λvs h1=>match vs with
 | [.int j]=>if 0<=j/\j<=100000 then .ok (.ref h1.length) (h1++[.lst (aJ 0 j.toNat)]) else .no
 | _=> .no
end
section
variable{c:CF}{e:ay}{h:PH}{r:MA}
noncomputable def Rt(vs:List PV)(h1:PH):RV PV:=match vs with
 | [.int j]=>if 0<=j/\j<=100000 then .ok (.ref h1.length) (h1++[.lst (aJ 0 j.toNat)]) else .no
 | _=> .no
theorem Jh:QX r c e h=(r c e h).bind Rt:=(rfl)
theorem Dc(hj:0<=j/\j<=100000):Rt [.int j] h= .ok (.ref h.length) (h++[.lst (aJ 0 j.toNat)]):=if_pos hj
end
end _P
namespace _P
open PySem PySem.Spec PyProof.Rows _L
section
variable{pg:Tb}{k:Nat}{d e:Tr}{md:ME}{mr:MA}{apos cpos:Pos}
noncomputable def i8:PV->List PV->PH->RV PV:=λx vs h=>match x,vs with
 | .ref n,[.str a]=>(match h[n]? with
  | some (.lst xs)=>(match eG xs with
   | some ss=>if a∈ss then .ok (.int (ss.idxOf a)) h else .no
   | none=> .no)
  | _=> .no)
 | _,_=> .no
noncomputable def Fq(x:PV)(vs:List PV)(h:PH):RV PV:=match x,vs with
 | .tup xs,[.str a]=>(match eG xs with
  | some ss=>if a∈ss then .ok (.int (ss.idxOf a)) h else .no
  | none=> .no)
 | _,_=> .no
noncomputable def yi(x:PV)(vs:List PV)(h:PH):RV PV:=match x,vs with
 | .ktup xs,[.str a]=>(match eG xs with
  | some ss=>if a∈ss then .ok (.int (ss.idxOf a)) h else .no
  | none=> .no)
 | _,_=> .no
noncomputable def IF(r:MA) c e (x:PV) (h1:PH):=match x with
 | .tup xs=>(r c e h1).bind (Fq (.tup xs))
 | _=> .no
noncomputable def HU(md:ME)(mr:MA):ME:=λc e h=>(md c e h).bind (IF mr c e)
noncomputable def PT(v:PV)(mr:MA):ME:=λc e h=>match v with
 | .ktup ys=>(mr c e h).bind (yi (.ktup ys))
 | _=> .no
end
section
variable{c:CF}{e:ay}{h:PH}{d:ME}{r:MA}{x v:PV}{ss:List Str}{a:Str}{n:Nat}
theorem Ou:PT (.ktup ys) r c e h=(r c e h).bind (yi (.ktup ys)):=(rfl)
theorem LC(ha:a∈ss):yi (.ktup (ss.map PV.str)) [.str a] h= .ok (.int (ss.idxOf a)) h:=by
 unfold yi;simp only[dK,if_pos ha]
theorem nq:HU d r c e h=(d c e h).bind (IF r c e):=(rfl)
theorem iX:IF r c e (.tup ys) h=(r c e h).bind (Fq (.tup ys)):=(rfl)
theorem jn(ha:a∈ss):Fq (.tup (ss.map PV.str)) [.str a] h= .ok (.int (ss.idxOf a)) h:=by
 unfold Fq;simp only[dK,if_pos ha]
theorem uw(e1:h[n]?=fI (.lst (ss.map PV.str)))(ha:a∈ss):i8 (.ref n) [.str a] h= .ok (.int (ss.idxOf a)) h:=by
 unfold i8;simp only[e1,dK,if_pos ha]
end
section
variable{pg:Tb}{k:Nat}
def zk(d:Vd):=d.showable=true/\d.hasDict=false/\d.depth<=64/\d.shown.length<=sizeLine
instance (d:Vd):Decidable (zk d):=by unfold zk;infer_instance
noncomputable def iy:List PV->PH->RV PV:=λxs h=>match xs with
 | [.bl b]=> .ok (.str (if b=true then SO "True" else SO "False")) h
 | [.non]=> .ok (.str (SO "None")) h
 | [.tup ys]=>(match dat 6 h (.tup ys) with
  | some d=>if zk d then .ok (.str d.shown) h else .no
  | none=> .no)
 | [.ref n]=>(match dat 6 h (.ref n) with
  | some d=>if zk d then .ok (.str d.shown) h else .no
  | none=> .no)
 | _=> .no
end
end _P
namespace _P
open PySem PySem.Spec PyProof.Rows _L
noncomputable def eI i:=eC (.int i)
noncomputable def eS x:=eC (.str x)
noncomputable def eX i j:=ao aE (aa i) (eI j)
noncomputable def mQ a b:=aF (ao eE a b)
noncomputable def a1 a:=ae a aj
noncomputable def a2 a b:=ae a (a1 b)
noncomputable def a3 a b d:=ae a (a2 b d)
section
variable{a b d:ME}{c:CF}{e:ay}{h:PH}{i:Nat}{j:Int}{s:Str}{x y z v:PV}
theorem Js:eI j c e h= .ok (.int j) h:=rfl
theorem Og:eS s c e h= .ok (.str s) h:=rfl
noncomputable def xk o j h:=(LG o h).bind λx h1=>aE x (.int j) h1
theorem PA:eX i j c e h=xk (e[i]?) j h:=rfl
theorem N3:xk (fI (fI v)) j h=aE v (.int j) h:=rfl
noncomputable def QQ x y h:=(eE x y h).bind ur
noncomputable def Ri(b:ME) c e x h:=(b c e h).bind (QQ x)
theorem aar:mQ a b c e h=(a c e h).bind (Ri b c e):=by
 show((a c e h).bind _).bind ur=_;cases a c e h with
 | ok x h1 =>
  show((b c e h1).bind _).bind ur=(b c e h1).bind _
  cases b c e h1<;>rfl
 | _=>rfl
theorem Kw:Ri b c e x h=(b c e h).bind (QQ x):=rfl
theorem Ly:QQ x y h=(eE x y h).bind ur:=rfl
noncomputable def Rm(x:PV)(h:PH):RV (List PV):= .ok [x] h
theorem Oz:a1 a c e h=(a c e h).bind Rm:=rfl
theorem LV:Rm x h= .ok [x] h:=rfl
noncomputable def QH(x y:PV)(h:PH):RV (List PV):= .ok [x,y] h
noncomputable def Rg(b:ME) c e x h:=(b c e h).bind (QH x)
theorem IM:a2 a b c e h=(a c e h).bind (Rg b c e):=by
 show(a c e h).bind _=_;cases a c e h with
 | ok x h1 =>
  show((b c e h1).bind _).bind _=(b c e h1).bind _
  cases b c e h1<;>rfl
 | _=>rfl
theorem aaJ:Rg b c e x h=(b c e h).bind (QH x):=rfl
theorem Lm:QH x y h= .ok [x,y] h:=rfl
noncomputable def P7(x y z:PV)(h:PH):RV (List PV):= .ok [x,y,z] h
noncomputable def Qu(d:ME) c e x y h:=(d c e h).bind (P7 x y)
noncomputable def Rb(b d:ME) c e x h:=(b c e h).bind (Qu d c e x)
theorem OP:a3 a b d c e h=(a c e h).bind (Rb b d c e):=by
 show(a c e h).bind (M8 (a2 b d) c e)=_;cases a c e h with
 | ok x h1 =>
  show(a2 b d c e h1).bind _=(b c e h1).bind _
  rw[IM]
  cases b c e h1 with
  | ok y h2 =>
   show((d c e h2).bind _).bind _=(d c e h2).bind _
   cases d c e h2<;>rfl
  | _=>rfl
 | _=>rfl
theorem aaN:Rb b d c e x h=(b c e h).bind (Qu d c e x):=rfl
theorem K6:Qu d c e x y h=(d c e h).bind (P7 x y):=rfl
theorem MN:P7 x y z h= .ok [x,y,z] h:=rfl
end
end _P
namespace _P
open PySem PySem.Spec PyProof.Rows _L
section
variable{pg:Tb}{k:Nat}{o i e:Tr}{mo mi ma:ME}{pos pos':Pos}
noncomputable def IJ:PV->PV->PH->RV PV:=λx y h=>match x,y with
 | .ref n,.int (.ofNat i)=>(match h[n]? with
  | some (.lst xs)=>(match xs[i]? with | some v=> .ok v h | none=> .no)
  | _=> .no)
 | _,_=> .no
noncomputable def Cq(mo mi ma:ME):MS:=λc e h=>(mo c e h).bind λx h1=>(mi c e h1).bind λy h2=>(IJ x y h2).bind λu h3=>(ma c e h3).bind λv h4=>(DC u v h4).bind λz h5=>(fD x y z h5).bind λ_ h6=> .ok (.nx e) h6
end
section
variable{c:CF}{e:ay}{h:PH}{mo mi ma:ME}{x y u v z:PV}{n i:Nat}{xs:List PV}
theorem abc(en:h[n]?=fI (.lst xs))(ei:xs[i]?=fI v):IJ (.ref n) (.int (i)) h= .ok v h:=by
 show(match h[n]? with | some (.lst xs)=>(match xs[i]? with | some v=>RV.ok v h | none=>RV.no) | _=>RV.no)=_;rw[en];show(match xs[i]? with | some v=>RV.ok v h | none=>RV.no)=_;rw[ei]
theorem MV{h1 h2 h3 h4 h5 h6:PH}(e1:mo c e h= .ok x h1)(e2:mi c e h1= .ok y h2)(e3:IJ x y h2= .ok u h3)(e4:ma c e h3= .ok v h4)(e5:DC u v h4= .ok z h5)(e6:fD x y z h5= .ok () h6):Cq mo mi ma c e h= .ok (.nx e) h6:=by
 simp only[Cq,e1,e2,e3,e4,e5,e6,cK]
end
end _P
namespace _P
open PySem PySem.Spec PyProof.Rows _L
section
variable{pg:Tb}{k:Nat}{tg o:Tr}{a:Sl}{kvs:List (Key × PV)}{x:Str}{p:Pos}
noncomputable def kP:Key->PV
 | .inl i=> .int i
 | .inr x=> .str x
noncomputable def Fm(kvs:List (Key × PV)):MI:=λ_ _ h=> .ok ⟨ox,kvs.map λp=>kP p.1⟩ h
theorem AG:Fm kvs c e h= .ok ⟨ox,kvs.map λp=>kP p.1⟩ h:=rfl
end
end _P
namespace _P
open PySem PySem.Spec PyProof.Rows _L
section
variable{pg:Tb}{k:Nat}{a b:Tr}{ma mb:ME}{p p2 pos pos2:Pos}
noncomputable def yO(xs ys:List PV):List PV:=(xs.zip ys).map λq=> .tup [q.1,q.2]
noncomputable def Nt:PV->PV->PH->RV PV:=λx y h=>match x,y with
 | .ref n,.ref m=>(match h[n]?,h[m]? with
  | some (.lst xs),fI (.lst ys)=> .ok (.ref h.length) (h++[.lst (yO xs ys)])
  | _,_=> .no)
 | _,_=> .no
theorem abe(en:h[n]?=fI (.lst xs))(em:h[m]?=fI (.lst ys)):Nt (.ref n) (.ref m) h= .ok (.ref h.length) (h++[.lst (yO xs ys)]):=by
 simp only[Nt,en,em]
end
end _P
namespace _P
open PySem PySem.Spec PyProof.Rows _L
end _P
namespace _P
open PySem PySem.Spec PyProof.Rows _L
section
variable{pg:Tb}{k:Nat}
noncomputable def kZ:=p2 λi j=>if 0 < j/\j < 18446744073709551616 then By (.int (i / j)) else .no
theorem B4(hj:0 < j/\j < 18446744073709551616):kZ (.int i) (.int j) h= .ok (.int (i / j)) h:=by unfold kZ p2;simp[hj,By,d9]
variable{d e1 e2:Tr}{md:ME}{mr:MA}{apos cpos:Pos}
end
end _P
namespace _L
open PySem PySem.Spec PyProof.Rows
section
noncomputable def dd:List Str->List Str
 | []=>[]
 | x::r=>if x∈dd r then dd r else x::dd r
end
end _L
namespace _P
open PySem PySem.Spec PyProof.Rows _L
end _P
namespace _P
open PySem PySem.Spec PyProof.Rows _L
structure RX(pg:Tb)(w:String)(C:Nat)(l:List Str):Prop where
 adr:pg.adr w=fI (C,l)
 df:pg.df w=ox
 cls:pg.cls w=ox
end _P
namespace _P
open PySem PySem.Spec PyProof.Rows _L
end _P
namespace _P
open PySem PySem.Spec PyProof.Rows _L
abbrev aaq:=Str->CF->ay->PH->RV Str
end _P
namespace _P
open PySem PySem.Spec PyProof.Rows _L
end _P
namespace _P
open PySem _L
end _P
namespace _P
open PySem PySem.Spec PyProof.Rows _L
section
variable{pg:Tb}{k:Nat}{a tg:Tr}{ma:ME}{p pos fpos:Pos}{els:List Tr}{j:Nat}{tpos:Pos}{g:MG}{ms:MS}{body:List XX}
noncomputable def Bp(xs:List PV):List PV:=xs.zipIdx.map λq=> .tup [.int (q.2),q.1]
theorem Km{i:Nat}:(Bp xs)[i]?=(xs[i]?).map λx=> .tup [.int (i),x]:=by
 unfold Bp;rw[Sq,Zm];cases xs[i]?<;>simp
theorem vi:(Bp xs).length=xs.length:=by simp[Bp]
noncomputable def fG(n:Nat)(xs:List PV)(step:PV->ay->PH->RV Fl):List PV->ay->PH->RV Fl
 | [],e,h=>if br h n=fI xs then .ok (.nx e) h else .no
 | x::r,e,h=>if br h n=fI xs then(step x e h).bind (λf h1=>match f with
   | .nx e1=>fG n xs step r e1 h1
   | .ct e1=>fG n xs step r e1 h1
   | .bk e1=> .ok (.nx e1) h1
   | .rt v=> .ok (.rt v) h1) else .no
noncomputable def Qy(g:MG)(b:MS)(c:CF)(e:ay)(n:Nat)(h:PH):Option (List PV)->RV Fl
 | some xs=>fG n xs (aW g b c) (Bp xs) e h
 | none=> .no
noncomputable def O7 g b c e (x:PV) (h:PH):=match x with
 | .ref n=>Qy g b c e n h (br h n)
 | _=> .no
noncomputable def Dx(a:ME)(g:MG)(b:MS):MS:=λc e h=>(a c e h).bind (O7 g b c e)
end
section
variable{c:CF}{e:ay}{h h1:PH}{a:ME}{g:MG}{b:MS}{n:Nat}{x:PV}{xs r:List PV}{step:PV->ay->PH->RV Fl}{e1:ay}
theorem Gf:Dx a g b c e h=(a c e h).bind (O7 g b c e):=rfl
theorem H6(l:h[n]?=fI (.lst xs)):O7 g b c e (.ref n) h=fG n xs (aW g b c) (Bp xs) e h:=by
 have:br h n=fI xs:=by unfold br;rw[l]
 rw[O7,this,Qy]
theorem Fp(l:h[n]?=fI (.lst xs)):fG n xs step [] e h= .ok (.nx e) h:=by
 have:br h n=fI xs:=by unfold br;rw[l]
 rw[fG,if_pos this]
theorem abi(l:h[n]?=fI (.lst xs))(q:step x e h= .ok (.nx e1) h1):fG n xs step (x::r) e h=fG n xs step r e1 h1:=by
 have:br h n=fI xs:=by unfold br;rw[l]
 rw[fG,if_pos this,q];rfl
end
end _P
namespace _P
open PySem PySem.Spec PyProof.Rows _L
end _P
namespace _P
open PySem PySem.Spec PyProof.Rows _L
end _P
namespace _P
open PySem PySem.Spec PyProof.Rows _L
end _P
namespace _P
open PySem PySem.Spec PyProof.Rows _L
end _P
namespace _P
open PySem PySem.Spec PyProof.Rows _L
noncomputable def dT?(h:PH):PV->Option (List (List Key × PV))
 | .ref n=>match h[n]? with
  | some (.dcT kvs)=>fI kvs
  | _=>ox
 | _=>ox
noncomputable def Ny(r:RV α):RV α :=match r with
 | .ex _ _ _=> .no
 | r=>r
noncomputable def Fi(mb:MS):MS:=λc e h=>Ny (mb c e h)
end _P
namespace _L
open PySem PySem.Spec PyProof.Rows
abbrev Pr:=Int × Int
abbrev Qr:=Pr × Pr
def ltI(p q:Pr):=p.1 < q.1\/(p.1=q.1/\p.2 < q.2)
instance (p q:Pr):Decidable (ltI p q):=inferInstanceAs (Decidable (_\/_))
def ltQ(p q:Qr):=ltI p.1 q.1\/(p.1=q.1/\ltI p.2 q.2)
instance (p q:Qr):Decidable (ltQ p q):=inferInstanceAs (Decidable (_\/_))
theorem t5(h:ltI a b)(g:ltI b c):ltI a c:=by unfold ltI at *; omega
theorem vh a: ¬ ltI a a:=by unfold ltI;omega
theorem Dv(h:a≠b):ltI a b\/ltI b a:=by
 have: ¬ (a.1=b.1/\a.2=b.2):=λz=>h (vO z.1 z.2);unfold ltI;omega
theorem gh(h:ltQ a b)(g:ltQ b c):ltQ a c:=by
 rcases h with h | ⟨e,h⟩<;>rcases g with g | ⟨f,g⟩
 . exact .inl (t5 h g)
 . exact .inl (f ▸ h)
 . exact .inl (e ▸ g)
 . exact .inr ⟨e.trans f,t5 h g⟩
theorem pV a: ¬ ltQ a a:=λh=>h.elim (vh _) λh=>vh _ h.2
theorem qK(h:a≠b):ltQ a b\/ltQ b a:=by
 by_cases e:a.1=b.1
 . exact(Dv λz=>h (vO e z)).imp (λz=> .inr ⟨e,z⟩) λz=> .inr ⟨e.symm,z⟩
 . exact(Dv e).imp .inl .inl
noncomputable def jK(xs:List Qr) x:=(xs.filter λy=>decide (ltQ y x)).length
theorem wZ(h:ltQ x y): ∀ xs,jK xs x<=jK xs y
 | []=>Si _
 | z::r=>by
  have ih:=wZ h r;unfold jK at ih ⊢;rw[Ve,Ve];by_cases a:ltQ z x
  . rw[if_pos (decide_eq_true a),if_pos (decide_eq_true (gh a h))];simpa using ih
  . rw[if_neg (by simpa using a)];split
    . exact U3 ih
    . exact ih
theorem jO(h:ltQ x y): ∀{xs},x∈xs->jK xs x < jK xs y
 | z::r,m=>by
  rcases Sd.mp m with e | m
  . have le:=wZ h r;unfold jK at le ⊢;rw[<- e,Ve,Ve,if_neg (by simpa using pV x),if_pos (decide_eq_true h)];exact BQ le
  . have ih:=jO h m;unfold jK at ih ⊢;rw[Ve,Ve];by_cases a:ltQ z x
    . rw[if_pos (decide_eq_true a),if_pos (decide_eq_true (gh a h))];simpa using ih
    . rw[if_neg (by simpa using a)];split
      . exact Uc ih
      . exact ih
theorem tJ(hx:x∈xs)(hy:y∈xs):jK xs x < jK xs y↔ltQ x y:=by
 refine⟨λh=>?_,λh=>jO h hx⟩;by_cases e:x=y
 . subst e;exact absurd h (TF _)
 . rcases qK e with z | z
   . exact z
   . exact absurd (jO z hy) (Nat.lt_asymm h)
noncomputable def q0:Qr:=((0,0),(0,0))
noncomputable def cQ(xs:List Qr) i j:=decide (ltQ (xs.getD i q0) (xs.getD j q0))
theorem BG{xs:List Qr}(h:i < xs.length):xs.getD i q0∈xs:=by
 rw[SI,R6 h];exact Uw h
theorem O1(h1:1<=xs.length)(nd:xs.Nodup) :
  CG xs.length (cQ xs) (UP xs.length)=true/\(yd (cQ xs) (UP xs.length)).toList.Perm (S6 xs.length)/\((yd (cQ xs) (UP xs.length)).toList.map λi=>xs.getD i q0).Pairwise ltQ:=by
 have inj:sV _ λi=>jK xs (xs.getD i q0):=λi j hi hj e=>by
  dsimp only at e;by_cases z:xs.getD i q0=xs.getD j q0
  . rw[SI,SI,R6 hi,R6 hj] at z;exact(Yn nd).mp z
  . rcases qK z with y | y
    . have:=jO y (BG hi);omega
    . have:=jO y (BG hj);omega
 obtain⟨k,sh,up⟩:=AP inj h1;have al: ∀ i j,i < xs.length->j < xs.length->cQ xs i j=cN (λi=>jK xs (xs.getD i q0)) i j:=λi j hi hj=>decide_eq_decide.mpr (tJ (BG hi) (BG hj)).symm;obtain⟨k',e⟩:=rQ al _ k;rw[<- e] at sh up;refine⟨k',sh.perm,?_⟩;rw[VB,XB];intro i j hi hj hij;have hz:=sh.size;have hj':j < xs.length:=by rw[<- hz];simpa using hj
 have u:=up i j hij hj';have li:=sh.lt (U2 hij hj');have lj:=sh.lt hj';have:=(tJ (BG li) (BG lj)).mp u;simpa [hz,hj',U2 hij hj'] using this
end _L
namespace _P
open PySem PySem.Spec PyProof.Rows _L
noncomputable def nG(p:Pr):PV:= .tup [.int p.1,.int p.2]
noncomputable def cP(q:Qr):PV:= .tup [nG q.1,nG q.2]
noncomputable def M9(c:Bool):List PV:=if c=true then[.str "need"] else[]
noncomputable def CB(c:Bool)(q:Qr):PV:= .tup (M9 c++[nG q.1,nG q.2])
noncomputable def Rv(x:PV):Pr:=(nI (A6 x 0),nI (A6 x 1))
noncomputable def QG(c:Bool)(x:PV):Qr:=(Rv (A6 x (M9 c).length),Rv (A6 x ((M9 c).length+1)))
noncomputable def Pf c x:=if x=CB c (QG c x) then fI (QG c x) else ox
noncomputable def Nl(c:Bool):List PV->Option (List Qr)
 | []=>fI []
 | x::r=>match Pf c x,Nl c r with
  | some q,fI qs=>fI (q::qs)
  | _,_=>ox
theorem Ij c q:Pf c (CB c q)=fI q:=by
 have e:QG c (CB c q)=q:=by cases c<;>rfl
 unfold Pf;rw[e];exact if_pos rfl
theorem MC(e:Pf c x=fI q):x=CB c q:=by
 unfold Pf at e;split at e
 . rename_i h;cases e;exact h
 . cases e
theorem As c: ∀ qs,Nl c (qs.map (CB c))=fI qs
 | []=>rfl
 | b::r=>by rw[R9,Nl,Ij,As c r]
theorem Ei: ∀{xs qs},Nl c xs=fI qs->xs=qs.map (CB c)
 | [],qs,e=>by cases e;rfl
 | x::r,qs,e=>by
  rw[Nl] at e;split at e
  . rename_i q0 qs0 e1 e2;cases e;rw[MC e1,Ei e2];rfl
  . cases e
section
variable{ρ :List Sl}
noncomputable def dW(qs:List Qr):=qs.mergeSort λa b=> !decide (ltQ b a)
theorem tj a b c (h:(!decide (ltQ b a))=true) (g:(!decide (ltQ c b))=true):(!decide (ltQ c a))=true:=by
 simp only[Tt,decide_eq_false_iff_not] at *;intro z;by_cases e:b=c
 . exact h (e ▸ z)
 . rcases qK e with y | y
   . exact h (gh y z)
   . exact g y
theorem xf(p:qs'.Perm qs)(h:qs'.Pairwise ltQ):qs'=dW qs:=by
 refine ky (λa _ b _ z1 z2=>?_) (p.trans (UD qs _).symm) (h.imp λ{a b} z=>?_) (Ul tj (λa b=>?_) qs)
 . simp only[Tt,decide_eq_false_iff_not] at z1 z2;exact XA λe=>(qK e).elim z2 z1
 . simp only[Tt,decide_eq_false_iff_not];exact λy=>pV _ (gh z y)
 . simp only[V2,Tt,decide_eq_false_iff_not];exact(Classical.em _).elim (λz=> .inr λy=>pV _ (gh z y)) .inl
theorem lQ qs:(dW qs).Perm qs:=UD qs _
noncomputable def lO(c:Bool)(xs:List PV)(h:PH):RV PV:=match xs with
 | [.ref n]=>(match (itemsOf h (.ref n)).bind (Nl c) with
  | some qs=>if qs.length < 64/\qs.Nodup then .ok (.ref h.length) (h++[.lst ((dW qs).map (CB c))]) else .no
  | none=> .no)
 | _=> .no
end
end _P
namespace _P
open PySem PySem.Spec PyProof.Rows _L
section
variable{c:CF}{e:ay}{h:PH}{a b d:ME}{x y z v:PV}{mb:MS}{n:Nat}{kvs:List (List Key × PV)}{q:List Key}{f:PV->PV->PV->PH->RV PV}{neg:Bool}
theorem Gi:Fi mb c e h=Ny (mb c e h):=rfl
theorem aaH:Ny (.ok r h)= .ok r h:=(rfl)
noncomputable def RM(f:PV->PV->PV->PH->RV PV) x y z h:=f x y z h
noncomputable def Ry f (b:ME) c e x y h:=(b c e h).bind (RM f x y)
noncomputable def t3 f (a b:ME) c e x h:=if (dT? h x).isSome=true then(a c e h).bind (Ry f b c e x) else .no
theorem HW{c}(r:h[n]?=fI (.lst (qs.map (CB c))))(hl:qs.length < 64)(nd:qs.Nodup):lO c [.ref n] h= .ok (.ref h.length) (h++[.lst ((dW qs).map (CB c))]):=by
 have:itemsOf h (.ref n)=fI (qs.map (CB c)):=by simp only[itemsOf,br,r]
 unfold lO;simp only[this,Option.bind_some,As];exact if_pos ⟨hl,nd⟩
theorem G2(r:h[n]?=fI (.lst (qs.map cP)))(hl:qs.length < 64)(nd:qs.Nodup):lO false [.ref n] h= .ok (.ref h.length) (h++[.lst ((dW qs).map cP)]):=HW r hl nd
end
end _P
namespace _P
open PySem PySem.Spec PyProof.Rows _L
end _P
namespace _P
open PySem PySem.Spec PyProof.Rows _L
noncomputable def mn(xs:List PV)(h:PH):RV PV:=match xs with
 | [.ref n]=>(match itemsOf h (.ref n) with
  | some ys=>(match qV ys with
   | some ns=>if ns.length < 64 then .ok (.ref h.length) (h++[.lst ((YZ ns).map PV.int)]) else .no
   | none=> .no)
  | none=> .no)
 | _=> .no
theorem FN(e:h[n]?=fI (.lst (bs.map PV.int)))(hl:bs.length < 64):mn [.ref n] h= .ok (.ref h.length) (h++[.lst ((YZ bs).map PV.int)]):=by
 have:itemsOf h (.ref n)=fI (bs.map PV.int):=by simp only[itemsOf,br,e]
 unfold mn;simp only[this,xM,hl,if_true]
end _P
namespace _P
open PySem PySem.Spec PyProof.Rows _L
end _P
end
section
open PySem PySem.W PyProof.Rows
namespace _L
open PySem PySem.Spec PyProof.Rows
noncomputable def qi:Key->RZ->Bool
 | .inl k,v=>Value.isInt k v
 | .inr x,v=>xT x v
noncomputable def QU(w:Tp):Key->Int
 | .inl k=>hashInt k
 | .inr x=>hashStr w x
theorem bJ: ∀{k v},qi k v=true->(∃ i t,k=OW i/\v=ZF i t)\/(∃ x t,k=V1 x/\v=Ka x t)
 | .inl i,v,h=>by
  obtain⟨t,e⟩:=Value.isInt_shape h;exact .inl ⟨i,t,rfl,e⟩
 | .inr x,v,h=>by
  obtain⟨t,e⟩:=Value.isStrOf_shape h;exact .inr ⟨x,t,rfl,e⟩
theorem Bg i t:qi (.inl i) (.int i t)=true:=by simp[qi,Value.isInt]
theorem nZ x t:qi (.inr x) (.str x t)=true:=by simp[qi,xT]
noncomputable def bg prog w:PySem.KeyKind prog w Key where
 is:=qi
 hash:=QU w
 inj:=λv a b ha hb=>by
  rcases bJ ha with⟨i,t,rfl,rfl⟩ | ⟨x,t,rfl,rfl⟩
  . rcases bJ hb with⟨j,u,rfl,e⟩ | ⟨y,u,rfl,e⟩
    . injection e with e1 _;rw[e1]
    . nomatch e
  . rcases bJ hb with⟨j,u,rfl,e⟩ | ⟨y,u,rfl,e⟩
    . nomatch e
    . injection e with e1 _;rw[e1]
 byValue:=λk v h=>by
  rcases bJ h with⟨i,t,rfl,rfl⟩ | ⟨x,t,rfl,rfl⟩<;>rfl
 pyHash:=λhv h=>by
  rcases bJ hv with⟨i,t,rfl,rfl⟩ | ⟨x,t,rfl,rfl⟩
  . exact wpAny_pyHash_int h
  . exact wpAny_pyHash_str h
 eqBool:=λhu hv h=>by
  rcases bJ hu with⟨i,t,rfl,rfl⟩ | ⟨x,t,rfl,rfl⟩
  . rcases bJ hv with⟨j,u,rfl,rfl⟩ | ⟨y,u,rfl,rfl⟩
    . rw[Kd] at h;exact VM h
    . rw[KQ] at h;exact ZY i t y u _ _ _ _ h
  . rcases bJ hv with⟨j,u,rfl,rfl⟩ | ⟨y,u,rfl,rfl⟩
    . rw[JL] at h;exact ZZ x t j u _ _ _ _ h
    . rw[Ke] at h;exact wpAny_eqBool_str h
 «strs» :=λk x t v h=>by
  rcases bJ h with⟨i,u,rfl,e⟩ | ⟨y,u,rfl,e⟩
  . nomatch e
  . injection e with e1 _;subst e1;cases v<;>rfl
structure Mod(K:Sy)(mg:Str->Option RZ)(base:SM):Prop where
 Fn:K.In base
 glob:base.Ns UI mg
 blt: ∃ mb,base.Ns builtinsNs mb/\ ∀ x:Str,x≠ "__name__" ->mb x=Wj x
 nolimit:base.NoLimit
noncomputable def kg(l:List Env):=l.filterMap (·.frame)
def Look(env:Env)(h:SM)(m:Str->Option RZ) x u :=
 (env.kindOf x=fI .local/\m x=fI u)\/((env.kindOf x=fI .cell\/env.kindOf x=fI .free)/\ ∃ c,env.cells.lookup x=fI c/\h.IsCell c (fI u))
end _L
namespace _P
open PySem PySem.Spec PyProof.Rows _L
def xJ(h:SM)(a:Sl)(us:Array RZ):Prop:= ∃ o,h.get? a=fI o/\o.cls= .type "tuple" /\ ∃ n,o.data= .seq us n/\o.dict=ox
theorem xJ.tup{h:SM}{a:Sl}{us:Array RZ}(x:xJ h a us):Wl h a us:=let ⟨o,e,c,n,d,_⟩:=x;⟨o,e,c,n,d⟩
structure Ps where
 l:List (Sl × Option Sl)
 pv:List Sl:=[]
noncomputable def Ps.add(ρ :Ps)(q:List (Sl × Option Sl)):Ps:=⟨ρ.l++q, ρ.pv⟩
def nB(h:SM)(a:Sl):Prop:= ∃ o,h.get? a=fI o∧o.cls= .type "tuple" /\ ∃ us n,o.data= .seq us n
def dF(ρ :Ps)(b:Sl):Prop:= ∃ q∈ ρ.l,∃ e,q.2=fI e∧(b=q.1∨b=e)
mutual
def rel(ρ :Ps)(h:SM):PV->RZ->Prop
 | .non,u=>u= .none
 | .bl b,u=>u= .bool b
 | .int i,u=> ∃ t,u= .int i t
 | .str x,u=> ∃ t,u= .str x t
 | .ty n,u=>u= .type n
 | .ref n,u=> ∃ q, ρ.l[n]?=fI q∧u= .ref q.1
 | .tup xs,u=> ∃ a us,u= .ref a∧aB ρ h xs us∧(us.length<=sizeLine∧a ∉ ρ.pv)∧xJ h a us.toArray
 | .ktup xs,u=> ∃ a us,u= .ref a∧aB ρ h xs us∧(us.length<=sizeLine∧a ∉ ρ.pv)∧Wl h a us.toArray
def aB(ρ :Ps)(h:SM):List PV->List RZ->Prop
 | [],us=>us=[]
 | x::r,us=> ∃ u t,us=u::t∧rel ρ h x u∧aB ρ h r t
end
structure Gr (ρ :Ps) (h:SM) (ρ':Ps) (h':SM):Prop where
 pre: ∀(n:Nat)(q:Sl × Option Sl), ρ.l[n]?=fI q-> ρ'.l[n]?=fI q
 tup: ∀ a o,h.get? a=fI o->o.cls= .type "tuple" ->(∃ us n,o.data= .seq us n)->a ∉ ρ.pv->a ∉ ρ'.pv∧ ∃ sl,h'.get? a=fI { o with slots:=sl}
 pv:(∀ a∈ ρ.pv,nB h a)-> ∀ a∈ ρ'.pv,nB h' a
 sub: ∀ a∈ ρ.pv,a∈ ρ'.pv
abbrev RK{κ :Type}(ρ :Ps)(h:SM)(kvs:List (κ × PV))(kus:List (κ × RZ)):Prop:=UX (λ(p: κ × PV) (q: κ × RZ)=>p.1=q.1/\rel ρ h p.2 q.2) kvs kus
def EC(ρ :Ps)(h:SM):Option PV->Option RZ->Prop
 | some v,fI u=>rel ρ h v u
 | none,ox=>True
 | _,_=>False
section
variable{ρ ρ1 ρ2:Ps}{h h1 h2:SM}{x:PV}{u:RZ}{xs ys:List PV}{us vs:List RZ}
theorem Gr.of(t: ∀ a o,h.get? a=fI o->o.cls= .type "tuple" ->(∃ us n,o.data= .seq us n)-> ∃ sl,h1.get? a=fI { o with slots:=sl}):Gr ρ h ρ h1 :=
 ⟨λ_ _ e=>e,λa o e c d n=>⟨n,t a o e c d⟩,λH a m=>let ⟨o,e,c,d⟩:=H a m;let ⟨_,e1⟩:=t a o e c d;⟨_,e1,c,d⟩,λ_ m=>m⟩
theorem Gr.refl:Gr ρ h ρ h:= .of λ_ o e _ _=>⟨o.slots,e⟩
theorem Gr.trans(a:Gr ρ h ρ1 h1)(b:Gr ρ1 h1 ρ2 h2):Gr ρ h ρ2 h2:=⟨λn q e=>b.pre n q (a.pre n q e),λc o e z y m=>let ⟨m1,_,e1⟩:=a.tup c o e z y m;let ⟨m2,sl,e2⟩:=b.tup c _ e1 z y m1;⟨m2,sl,e2⟩,λH=>b.pv (a.pv H),λc m=>b.sub c (a.sub c m)⟩
theorem Gr.kept(k: ∀ b o,h.get? b=fI o->h1.get? b=fI o):Gr ρ h ρ h1:= .of λ_ o e _ _=>⟨o.slots,k _ o e⟩
theorem Gr.isTup(g:Gr ρ h ρ1 h1){a:Sl}{vs:Array RZ}(m:a ∉ ρ.pv):Wl h a vs->a ∉ ρ1.pv/\Wl h1 a vs:=λ⟨o,e,c,n,d⟩=>let ⟨m,_,q⟩:=g.tup a o e c ⟨_,_,d⟩ m;⟨m,_,q,c,n,d⟩
theorem Gr.Qs(g:Gr ρ h ρ1 h1){a:Sl}{vs:Array RZ}(m:a ∉ ρ.pv):xJ h a vs->a ∉ ρ1.pv/\xJ h1 a vs:=λ⟨o,e,c,n,d,z⟩=>let ⟨m,_,q⟩:=g.tup a o e c ⟨_,_,d⟩ m;⟨m,_,q,c,n,d,z⟩
mutual
theorem rel.gr(g:Gr ρ h ρ1 h1): ∀(x:PV)(u:RZ),rel ρ h x u->rel ρ1 h1 x u
 | .non,_,e=>e
 | .bl _,_,e=>e
 | .int _,_,e=>e
 | .str _,_,e=>e
 | .ty _,_,e=>e
 | .ref _,_,⟨q,e,z⟩=>⟨q,g.pre _ _ e,z⟩
 | .tup xs,_,⟨a,us,e,r,z,t⟩=>let ⟨m,t⟩:=g.Qs z.2 t;⟨a,us,e,aB.gr g xs us r,⟨z.1,m⟩,t⟩
 | .ktup xs,_,⟨a,us,e,r,z,t⟩=>let ⟨m,t⟩:=g.isTup z.2 t;⟨a,us,e,aB.gr g xs us r,⟨z.1,m⟩,t⟩
theorem aB.gr(g:Gr ρ h ρ1 h1): ∀(xs:List PV)(us:List RZ),aB ρ h xs us->aB ρ1 h1 xs us
 | [],_,e=>e
 | x::r,_,⟨u,t,e,a,b⟩=>⟨u,t,e,rel.gr g x u a,aB.gr g r t b⟩
end
theorem rel.up(r:rel ρ h x u)(g:Gr ρ h ρ1 h1):rel ρ1 h1 x u:=rel.gr g x u r
theorem aB.up(r:aB ρ h xs us)(g:Gr ρ h ρ1 h1):aB ρ1 h1 xs us:=aB.gr g xs us r
theorem rel.seq(e:x.seq?=fI xs)(r:rel ρ h x u): ∃ a us,u= .ref a/\aB ρ h xs us/\(us.length<=sizeLine/\a ∉ ρ.pv)/\Wl h a us.toArray:=by
 cases x with
 | tup ys=>cases e;obtain⟨a,us,e,r,z,t⟩:=r;exact⟨a,us,e,r,z,t.tup⟩
 | ktup ys=>cases e;exact r
 | _=>cases e
theorem aB.len: ∀{xs us},aB ρ h xs us->xs.length=us.length:=λ{xs}=>by
 induction xs with
 | nil=>intro us e;cases(show us=[] from e);rfl
 | cons x r ih=>intro us z;obtain⟨u,t,rfl,_,b⟩:=z;exact congrArg Nat.succ (ih b)
theorem aB.cons(a:rel ρ h x u)(b:aB ρ h xs us):aB ρ h (x::xs) (u::us):=⟨u,us,rfl,a,b⟩
theorem aB.nil:aB ρ h [] []:=rfl
theorem aB.one(a:rel ρ h x u):aB ρ h [x] [u]:= .cons a .nil
theorem aB.get: ∀{xs us},aB ρ h xs us-> ∀{i:Nat}{x:PV},xs[i]?=fI x-> ∃ u,us[i]?=fI u/\rel ρ h x u:=λ{xs}=>by
 induction xs with
 | nil=>intro us _ i x e;cases e
 | cons y r ih =>
  intro us z i x e
  obtain⟨u,t,rfl,a,b⟩:=z
  cases i with
  | zero=>cases e;exact⟨u,rfl,a⟩
  | succ i=>exact ih b e
theorem aB.app: ∀{xs us},aB ρ h xs us-> ∀{ys vs},aB ρ h ys vs->aB ρ h (xs++ys) (us++vs):=λ{xs}=>by
 induction xs with
 | nil=>intro us e ys vs z;cases(show us=[] from e);exact z
 | cons y r ih=>intro us z ys vs w;obtain⟨u,t,rfl,a,b⟩:=z;exact .cons a (ih b w)
theorem aB.take: ∀{xs us},aB ρ h xs us-> ∀ n,aB ρ h (xs.take n) (us.take n):=λ{xs}=>by
 induction xs with
 | nil=>intro us e n;cases(show us=[] from e);cases n<;>exact .nil
 | cons y r ih =>
  intro us z n;obtain⟨u,t,rfl,a,b⟩:=z
  cases n with
  | zero=>exact .nil
  | succ n=>exact .cons a (ih b n)
theorem aB.drop: ∀{xs us},aB ρ h xs us-> ∀ n,aB ρ h (xs.drop n) (us.drop n):=λ{xs}=>by
 induction xs with
 | nil=>intro us e n;cases(show us=[] from e);cases n<;>exact .nil
 | cons y r ih =>
  intro us z n;obtain⟨u,t,rfl,a,b⟩:=z
  cases n with
  | zero=>exact .cons a b
  | succ n=>exact ih b n
theorem aB.set(a:rel ρ h x u): ∀{xs us},aB ρ h xs us-> ∀ i,aB ρ h (xs.set i x) (us.set i u):=λ{xs}=>by
 induction xs with
 | nil=>intro us e n;cases(show us=[] from e);exact .nil
 | cons y r ih =>
  intro us z n;obtain⟨w,t,rfl,a',b⟩:=z
  cases n with
  | zero=>exact .cons a b
  | succ n=>exact .cons a' (ih b n)
theorem aB.ints(ns:List Int)(hu:ZG us ns):aB ρ h (ns.map PV.int) us:=by
 induction hu with
 | nil=>exact .nil
 | cons a b c ih=>exact .cons ⟨_,rfl⟩ ih
theorem RK.up{κ :Type}{kvs:List (κ × PV)}{kus:List (κ × RZ)}(g:Gr ρ h ρ1 h1)(r:RK ρ h kvs kus):RK ρ1 h1 kvs kus:=Paired.zB r λ_ _ z=>⟨z.1,z.2.up g⟩
end
def Nw(P:SP)(w:Tp)(ρ :Ps)(h:SM)(a:Sl)(kvs:List (List Key × PV)):Prop :=
 ∃ xs:List (List Key × Sl × RZ),UX (λ(p:List Key × PV) (q:List Key × Sl × RZ)=>p.1=q.1/\rel ρ h (.tup (p.1.map λk=>match k with | .inl i=>PV.int i | .inr z=>PV.str z)) (.ref q.2.1)/\rel ρ h p.2 q.2.2) kvs xs /\
  ∃ o es ep,h.get? a=fI o/\o.ExactDict/\o.data= .dict es ep/\es.toList=xs.map (entryOfKey (tupleKind (bg P w)))/\(xs.map (·.1)).Nodup
def uM(ρ :Ps)(h:SM)(d:Sl)(fs:List (Str × PV)):Prop:= ∃ fws mA,RK ρ h fs fws/\h.Ns1 d mA/\ ∀ f,mA f=fws.lookup f
def jV(P:SP)(w:Tp)(B:SM)(ρ :Ps)(h:SM)(q:Sl × Option Sl):PO->Prop
 | .lst xs=>q.2=fI q.1/\ ∃ us,aB ρ h xs us/\us.length<=sizeLine/\ ∃ n,h.get? q.1=fI { cls:= .type "list",data:= .seq us.toArray n}
 | .fro xs=>q.2=ox/\ ∃ us,aB ρ h xs us/\us.length<=sizeLine/\PlainL B q.1 us.toArray
 | .bu kvs=>q.2=fI q.1/\(q.1 == U9)=false/\ ∃ kus,RK ρ h kvs kus/\kus.length<=sizeLine/\h.DictOf (bg P w) q.1 kus
 | .dcT kvs=>q.2=fI q.1/\(q.1 == U9)=false/\kvs.length<=sizeLine/\Nw P w ρ h q.1 kvs
 | .obj C fs=> ∃ d,q.2=fI d/\d≠q.1/\fs.length<=1000/\h.get? q.1=fI (Y0 C d)/\uM ρ h d fs
 | .exc C fs=> ∃ d,q.2=fI d/\d≠q.1/\(∃ oe av,h.get? q.1=fI oe/\oe.cls= .ref C/\oe.dict=fI d/\oe.data= .fields av)/\uM ρ h d fs
section
variable{P:SP}{w:Tp}{B:SM}{ρ ρ':Ps}{h h':SM}{q:Sl × Option Sl}{o:PO}{p:PH}
theorem uM.wJ{d:Sl}{fs:List (Str × PV)}(F:uM ρ h d fs)(g:Gr ρ h ρ' h')(k: ∀ u,h.get? d=fI u->h'.get? d=fI u):uM ρ' h' d fs:=let ⟨fws,mA,r,a,b⟩:=F;⟨fws,mA,r.up g,a.at k,b⟩
theorem jV.wJ(g:Gr ρ h ρ' h')(k: ∀ e,q.2=fI e->(∀ u,h.get? q.1=fI u->h'.get? q.1=fI u)/\ ∀ u,h.get? e=fI u->h'.get? e=fI u)(r:jV P w B ρ h q o):jV P w B ρ' h' q o:=by
 cases o with
 | lst xs=>obtain⟨e,us,r,z,n,x⟩:=r;exact⟨e,us,r.up g,z,n,(k _ e).1 _ x⟩
 | fro xs=>obtain⟨e,us,r,z⟩:=r;exact⟨e,us,r.up g,z⟩
 | bu kvs=>obtain⟨e,n,us,r,z,o,es,ep,x,y⟩:=r;exact⟨e,n,us,r.up g,z,o,es,ep,(k _ e).1 _ x,y⟩
 | dcT kvs=>obtain⟨e,n,z,xs,r,o,es,ep,x,y⟩:=r;exact⟨e,n,z,xs,Paired.zB r λ_ _ z=>⟨z.1,z.2.1.up g,z.2.2.up g⟩,o,es,ep,(k _ e).1 _ x,y⟩
 | obj C fs=>obtain⟨d,e,ne,n,x,F⟩:=r;exact⟨d,e,ne,n,(k _ e).1 _ x,F.wJ g (k _ e).2⟩
 | exc C fs=>obtain⟨d,e,ne,⟨oe,av,x,y⟩,F⟩:=r;exact⟨d,e,ne,⟨oe,av,(k _ e).1 _ x,y⟩,F.wJ g (k _ e).2⟩
theorem jV.there(r:jV P w B ρ h q o){e:Sl}(he:q.2=fI e):(∃ u,h.get? q.1=fI u)/\ ∃ u,h.get? e=fI u/\(o.dq=true->u.cls≠ .type "tuple" \/ ∃ es ep,u.data= .dict es ep):=by
 cases o with
 | lst xs=>obtain⟨z,us,r,_,n,x⟩:=r;rw[he] at z;cases z;exact⟨⟨_,x⟩,_,x,λ_=> .inl (by simp)⟩
 | fro xs=>rw[r.1] at he;cases he
 | bu kvs=>obtain⟨z,n,us,r,_,o,es,ep,x,y,_⟩:=r;rw[he] at z;cases z;exact⟨⟨o,x⟩,o,x,λ_=> .inl (by rw[y.1];decide)⟩
 | dcT kvs=>obtain⟨z,n,_,xs,r,o,es,ep,x,y,_⟩:=r;rw[he] at z;cases z;exact⟨⟨o,x⟩,o,x,λ_=> .inl (by rw[y.1];decide)⟩
 | obj C fs=>obtain⟨d,z,ne,n,x,fws,mA,_,⟨o,es,ep,x2,y,_⟩,_⟩:=r;rw[he] at z;cases z;exact⟨⟨_,x⟩,o,x2,λ_=> .inr ⟨es,ep,y⟩⟩
 | exc C fs=>obtain⟨d,z,ne,⟨oe,av,x,y,_⟩,fws,mA,_,⟨o,es,ep,x2,_⟩,_⟩:=r;rw[he] at z;cases z;exact⟨⟨oe,x⟩,o,x2,λz=>by cases z⟩
structure hX(P:SP)(w:Tp)(B:SM)(ρ :Ps)(p:PH)(h:SM):Prop where
 len: ρ.l.length=p.length
 nd: ∀(i j:Nat)(o:PO)(q r:Sl × Option Sl)(e f:Sl),p[i]?=fI o->o.dq=true-> ρ.l[i]?=fI q->q.2=fI e-> ρ.l[j]?=fI r->r.2=fI f->i≠j->r.1≠e/\f≠e
 ob: ∀(i:Nat)(o:PO)(q:Sl × Option Sl),p[i]?=fI o-> ρ.l[i]?=fI q->jV P w B ρ h q o
 pv: ∀ a∈ ρ.pv,nB h a
 Nu: ∀ a∈ ρ.pv,B.get? a=ox
theorem hX.at{i:Nat}(s:hX P w B ρ p h)(e:p[i]?=fI o): ∃ q, ρ.l[i]?=fI q∧jV P w B ρ h q o:=by
 have hi:i < ρ.l.length:=by rw [s.len];exact (RY.mp e).1
 exact ⟨_,R6 hi,s.ob i o _ e (R6 hi)⟩
theorem hX.lt{b:Sl}(s:hX P w B ρ p h)(t:dF ρ b):b < h.objs.size:=by
 obtain⟨q,m,e,he,z⟩:=t;obtain⟨i,hi⟩:=Wz.mp m;have hi':i < p.length:=by rw[<- s.len];exact(RY.mp hi).1
 obtain⟨⟨u,x⟩,v,x2,_⟩:=(s.ob i _ q (R6 hi') hi).there he;rcases z with z | z<;>rw[z]
 . exact Su x
 . exact Su x2
theorem hX.fresh{b:Sl}(s:hX P w B ρ p h)(hb:h.objs.size<=b): ¬ dF ρ b:=λt=>absurd (s.lt t) (Uq.mpr hb)
theorem Oo{i:Nat}{e:Sl}(e2: ρ.l[i]?=fI q)(he:q.2=fI e):dF ρ q.1:=⟨q,Se e2,e,he,.inl rfl⟩
theorem KU{i:Nat}{e:Sl}(e2: ρ.l[i]?=fI q)(he:q.2=fI e):dF ρ e:=⟨q,Se e2,e,he,.inr rfl⟩
theorem hX.keep(s:hX P w B ρ p h)(g:Gr ρ h ρ h')(k: ∀ b,dF ρ b-> ∀ u,h.get? b=fI u->h'.get? b=fI u):hX P w B ρ p h' :=
 ⟨s.len,s.nd,λi o q e1 e2=>(s.ob i o q e1 e2).wJ g λ_ he=>⟨k _ (Oo e2 he),k _ (KU e2 he)⟩,g.pv s.pv,s.Nu⟩
theorem fA{α :Type}{l:List α}{x y: α}{i:Nat}(e:(l++[x])[i]?=fI y):(i < l.length/\l[i]?=fI y)\/(i=l.length/\y=x):=by
 rcases TJ i l.length with z | z
 . rw[TQ z] at e;exact .inl ⟨z,e⟩
 . rw[S8 z] at e;have:i - l.length=0:=by
    rcases Nat.eq_zero_or_pos (i - l.length) with y | y
    . exact y
    . rw[Tn (show[x].length<=i - l.length from y)] at e;cases e
   rw[this] at e;cases e;exact .inr ⟨V3 (Nat.le_of_sub_eq_zero this) z,rfl⟩
theorem Gr.more(g:Gr ρ h ρ h')(l:List (Sl × Option Sl)):Gr ρ h (ρ.add l) h':=⟨λn q e=>by show (ρ.l++l)[n]?=_;rw [TQ (RY.mp e).1];exact e,g.tup,g.pv,g.sub⟩
theorem hX.D2{d:Sl}(s:hX P w B ρ p h)(hq:q.2=fI d)(n1: ¬ dF ρ q.1)(n2: ¬ dF ρ d)(r:jV P w B (ρ.add [q]) h q o):hX P w B (ρ.add [q]) (p++[o]) h:=by
 have ne: ∀{j:Nat}{r:Sl × Option Sl}{f:Sl}, ρ.l[j]?=fI r->r.2=fI f-> ∀ c,¬ dF ρ c->r.1≠c∧f≠c:=λe hf c n=>⟨λz=>n (z ▸ Oo e hf),λz=>n (z ▸ KU e hf)⟩
 refine ⟨by show (ρ.l++[q]).length=_;rw [Sj,Sj,s.len];rfl,λi j o' q' r' e' f' e m a h1 b h2 n=>?_,λi o' q' e a=>?_,s.pv,s.Nu⟩
 . rcases fA a with ⟨ha,a'⟩ | ⟨ha,ea⟩
   . rcases fA e with ⟨_,e1⟩ | ⟨he,_⟩
     . rcases fA b with⟨_,b'⟩ | ⟨_,eb⟩
       . exact s.nd i j o' q' r' e' f' e1 m a' h1 b' h2 n
       . rw[eb] at h2 ⊢; rw[hq] at h2;cases h2;exact⟨VC (ne a' h1 _ n1).2,VC (ne a' h1 _ n2).2⟩
     . rw[s.len,<- he] at ha;exact absurd ha (TF _)
   . rcases fA b with⟨_,b'⟩ | ⟨hb,_⟩
     . rw[ea,hq] at h1;cases h1;exact ne b' h2 _ n2
     . exact absurd (ha.trans hb.symm) n
 . rcases fA a with⟨ha,a⟩ | ⟨ha,rfl⟩
   . rcases fA e with⟨_,e⟩ | ⟨he,_⟩
     . exact(s.ob i o' q' e a).wJ (Gr.refl.more [q]) λ_ _=>⟨λ_ z=>z,λ_ z=>z⟩
     . rw[s.len,<- he] at ha;exact absurd ha (TF _)
   . rcases fA e with⟨he,_⟩ | ⟨_,rfl⟩
     . rw[ha,s.len] at he;exact absurd he (TF _)
     . exact r
theorem hX.end(s:hX P w B ρ p h):(ρ.add [q]).l[p.length]?=fI q:=by
 show(ρ.l++[q])[p.length]?=_;rw[<- s.len,S8 (Si _),Nat.sub_self];rfl
theorem hX.Rl{a:Sl}(s:hX P w B ρ p h)(e:h.get? a=ox):a ∉ ρ.pv:=λm=>by obtain⟨o,z,_⟩:=s.pv a m;rw[z] at e;cases e
theorem hX.P6{a:Sl}(s:hX P w B ρ p h)(e:h.objs.size<=a):a ∉ ρ.pv:=s.Rl (Um e)
theorem hX.new{d:Sl}(s:hX P w B ρ p h)(hq:q.2=fI d)(k: ∀ b u,h.get? b=fI u->h'.get? b=fI u)(h1:h.objs.size<=q.1)(h2:h.objs.size<=d)(r:jV P w B (ρ.add [q]) h' q o):hX P w B (ρ.add [q]) (p++[o]) h' :=
 (s.keep (Gr.kept k) λb _=>k b).D2 hq (s.fresh h1) (s.fresh h2) r
theorem Gr.write{e:Sl}(k: ∀ b u,b≠e->h.get? b=fI u->h'.get? b=fI u)(n: ∃ u,h.get? e=fI u/\(u.cls≠ .type "tuple" \/ ∃ es ep,u.data= .dict es ep)):Gr ρ h ρ h':= .of λa o x c d=>⟨o.slots,k _ _ (λz=>by
 subst z;obtain⟨u,y,z⟩:=n;rw[x] at y;cases y;obtain⟨us,m,d⟩:=d;rcases z with z | ⟨es,ep,z⟩
 . exact z c
 . rw[d] at z;cases z) x⟩
theorem hX.wr{i:Nat}{d:Sl}(s:hX P w B ρ p h)(e1:p[i]?=fI o)(m:o.dq=true)(e2: ρ.l[i]?=fI q)(hq:q.2=fI d)(k: ∀ b u,b≠d->h.get? b=fI u->h'.get? b=fI u):Gr ρ h ρ h' :=
 let ⟨_,u,x,y⟩:=(s.ob i o q e1 e2).there hq;Gr.write k ⟨u,x,y m⟩
theorem hX.write{i:Nat}{d:Sl}{o':PO}(s:hX P w B ρ p h)(e1:p[i]?=fI o)(m:o.dq=true)(e2: ρ.l[i]?=fI q)(hq:q.2=fI d)(k: ∀ b u,b≠d->h.get? b=fI u->h'.get? b=fI u)(m':o'.dq=true)(r:jV P w B ρ h' q o'):hX P w B ρ (p.set i o') h':=by
 have g:=s.wr e1 m e2 hq k;have hi:i < p.length:=(RY.mp e1).1;refine⟨by rw[Td];exact s.len,λa b oa qa qb ea eb za ma ra ha rb hb n=>?_,λj oj qj ej rj=>?_,g.pv s.pv,s.Nu⟩
 . by_cases z:i=a
   . subst z;exact s.nd i b o qa qb ea eb e1 m ra ha rb hb n
   . rw[Te z] at za;exact s.nd a b oa qa qb ea eb za ma ra ha rb hb n
 . by_cases z:i=j
   . subst z;rw[SV hi] at ej;cases ej;rw[e2] at rj;cases rj;exact r
   . rw[Te z] at ej;exact(s.ob j oj qj ej rj).wJ g λf hf=>let nn:=s.nd i j o q qj d f e1 m e2 hq rj hf z;⟨(k _ · nn.1),(k _ · nn.2)⟩
end
structure Un(fs ex:List Sl)(ρ :Ps)(h:SM)(ρ':Ps)(h':SM):Prop where
 keep: ∀ b o,h.get? b=fI o-> ¬ dF ρ b->b ∉ fs->b ∉ ex->h'.get? b=fI o
 slot: ∀ b o,h.get? b=fI o-> ¬ dF ρ b->b∈fs->b ∉ ex-> ∃ sl,h'.get? b=fI { o with slots:=sl}
 free: ∀ b o,h.get? b=fI o-> ¬ dF ρ b->b ∉ ex-> ¬ dF ρ' b
 there: ∀ b o,h.get? b=fI o->b ∉ ex-> ∃ o',h'.get? b=fI o'
 gr:Gr ρ h ρ' h'
section
variable{fs fs' ex ex':List Sl}{ρ ρ1 ρ2:Ps}{h h1 h2:SM}{q:Sl × Option Sl}{p:PH}{o:PO}{b:Sl}{ob:Obj}
theorem Un.any(u:Un fs ex ρ h ρ1 h1)(e:h.get? b=fI ob)(n: ¬ dF ρ b)(hx:b ∉ ex): ∃ sl,h1.get? b=fI { ob with slots:=sl}:=by
 by_cases hb:b∈fs
 . exact u.slot b ob e n hb hx
 . exact⟨ob.slots,u.keep b ob e n hb hx⟩
theorem Un.mono(u:Un fs ex ρ h ρ1 h1)(hs: ∀ b∈fs,b∈fs')(hx: ∀ b∈ex,b∈ex'):Un fs' ex' ρ h ρ1 h1 :=
 ⟨λb o e n hb he=>u.keep b o e n (λz=>hb (hs b z)) λz=>he (hx b z),λb o e n _ he=>u.any e n λz=>he (hx b z),λb o e n he=>u.free b o e n λz=>he (hx b z),λb o e he=>u.there b o e λz=>he (hx b z),u.gr⟩
theorem Un.kept(k: ∀ b u,h.get? b=fI u->h1.get? b=fI u):Un fs ex ρ h ρ h1:=⟨λb o e _ _ _=>k b o e,λb o e _ _ _=>⟨o.slots,k b o e⟩,λ_ _ _ n _=>n,λb o e _=>⟨o,k b o e⟩,Gr.kept k⟩
theorem nN{d:Sl}(hq:q.2=fI d)(t:dF (ρ.add [q]) b):dF ρ b\/b=q.1\/b=d:=by
 obtain⟨r,m,e,he,z⟩:=t;rcases Ti.mp m with m | m
 . exact .inl ⟨r,m,e,he,z⟩
 . rw[Sf.mp m] at z he;rw[hq] at he;cases he;exact .inr z
theorem Un.new{d:Sl}(hq:q.2=fI d)(k: ∀ b u,h.get? b=fI u->h1.get? b=fI u)(a1:h.objs.size<=q.1)(a2:h.objs.size<=d):Un fs ex ρ h (ρ.add [q]) h1 :=
 ⟨λb o e _ _ _=>k b o e,λb o e _ _ _=>⟨o.slots,k b o e⟩,λb o e n _ t=>(nN hq t).elim n λz=>absurd (Su e) (Uq.mpr (z.elim (λy=>y ▸ a1) λy=>y ▸ a2)),λb o e _=>⟨o,k b o e⟩,(Gr.kept k).more _⟩
theorem Un.but{c:Sl}(g:Gr ρ h ρ h1)(hc:(dF ρ c/\ ∃ u,h1.get? c=fI u)\/c∈ex)(k: ∀ b u,b≠c->h.get? b=fI u->h1.get? b=fI u):Un fs ex ρ h ρ h1:=by
 have ne: ∀{b:Sl},¬ dF ρ b->b ∉ ex->b≠c:=λn m z=>hc.elim (λy=>n (z ▸ y.1)) λy=>m (z ▸ y);refine⟨λb o e n _ hx=>k b o (ne n hx) e,λb o e n _ hx=>⟨o.slots,k b o (ne n hx) e⟩,λ_ _ _ n _=>n,λb o e hx=>?_,g⟩;by_cases z:b=c
 . rw[z];exact hc.elim (λy=>y.2) λy=>absurd (z ▸ y) hx
 . exact⟨o,k b o z e⟩
end
structure Cx where
 prog:SP
 w:Tp
 K:Sy
 mg:Str->Option RZ
 base:SM
 A:TP
 N:List Str
 s₀ :R8
 ρ₀ :Ps
 env:Env
 outer:List Env
 stack:List Env
 ex:List Sl
 fn:Str->Bool
 calm:Bool
 pn:List (Sl × Obj)
 xe:RZ->R8->Prop
abbrev Cx.fs(X:Cx):List Sl:=kg X.outer
structure Cx.Ok(X:Cx):Prop where
 mod:Mod X.K X.mg X.base
 kind:X.env.scope.kind= .function
 glob:X.env.globals=UI
 blt:X.env.builtins=builtinsNs
 above:X.s₀.heap.objs.size<=X.env.locals
 inj: ∀ x y c,X.env.cells.lookup x=fI c->X.env.cells.lookup y=fI c->x=y
 has: ∀ x,(X.env.kindOf x=fI .cell\/X.env.kindOf x=fI .free)-> ∃ c,X.env.cells.lookup x=fI c
 PW: ∀ x c,X.fn x=true->X.env.cells.lookup x=fI c->X.s₀.heap.objs.size<=c
 hd:X.calm=true->X.A.handled=ox
 frames:X.A.frames=fI X.stack
 Qd:X.stack=X.outer\/(X.stack=X.env::X.outer/\X.env.frame=fI X.env.locals)
 QZ: ∀ b∈X.ex,b≠X.env.locals/\ ∀ x c,X.env.cells.lookup x=fI c->c≠b
 bs: ∀ b o,X.base.get? b=fI o->X.s₀.heap.get? b=fI o/\ ¬ dF X.ρ₀ b
 Nq:X.base.objs.size<=X.s₀.heap.objs.size
 Cg: ∀ b o,X.base.get? b=fI o->b ∉ X.ex
 EX: ∀ b∈X.ex,b ∉ X.fs
 sf:X.s₀.heap.FunFrames X.base X.outer
 OC: ∀ b∈X.fs,¬ dF X.ρ₀ b
structure Inv(X:Cx)(pins:List (Sl × Obj))(e:ay)(ρ :Ps)(p:PH)(s:R8):Prop where
 ok:X.Ok
 os:s.os=X.s₀.os
 bare:XK s.gens
 base:Un X.fs X.ex X.ρ₀ X.s₀.heap ρ s.heap
 loc: ∃ m,s.heap.Ns X.env.locals m/\ ∀(i:Nat)(x:Str)(v:PV),X.N[i]?=fI x->e[i]?=fI (fI v)->Qa X.env.scope x-> ∃ u,rel ρ s.heap v u/\Look X.env s.heap m x u
 cell: ∀ x c,X.env.cells.lookup x=fI c-> ∃ v,s.heap.IsCell c v
 free: ¬ dF ρ X.env.locals
 oU: ∀ x c,X.env.cells.lookup x=fI c-> ¬ dF ρ c
 pin: ∀ q∈X.pn++pins,s.heap.get? q.1=fI q.2/\ ¬ dF ρ q.1/\q.1≠X.env.locals/\q.1 ∉ X.fs/\ ∀ v,q.2.data≠ .cell v
 sim:hX X.prog X.w X.base ρ p s.heap
 len:e.length=X.N.length
def rC(X:Cx)(pins:List (Sl × Obj))(ch:List Sl):Prop:= ∀ b∈ch,(b∈X.ex\/X.s₀.heap.objs.size<=b)/\b≠X.env.locals/\(∀ x c,X.env.cells.lookup x=fI c->c≠b)/\ ∀ q∈X.pn++pins,q.1≠b
theorem rC.nil{X:Cx}{pins:List (Sl × Obj)}:rC X pins []:=λ_ z=>absurd z Sp
section
variable{X:Cx}{pins:List (Sl × Obj)}{e:ay}{ρ ρ':Ps}{p p':PH}{s:R8}{h':SM}{t':Nat}{ch:List Sl}
theorem Cx.Ok.QL(ok:X.Ok)(e:X.base.get? b=fI o):b ∉ X.fs:=λhb=>by
 have:=(ok.sf.mem hb).1;rw[e] at this;cases this
theorem Inv.bs(I:Inv X pins e ρ p s): ∀ b o,X.base.get? b=fI o->s.heap.get? b=fI o/\ ¬ dF ρ b:=λb o e =>
 let ⟨a,c⟩:=I.ok.bs b o e;⟨I.base.keep b o a c (I.ok.QL e) (I.ok.Cg b o e),I.base.free b o a c (I.ok.Cg b o e)⟩
theorem Inv.bk(I:Inv X pins e ρ p s): ∀ b o,X.base.get? b=fI o->s.heap.get? b=fI o:=λb o e=>(I.bs b o e).1
theorem Inv.B3(I:Inv X pins e ρ p s):X.K.In s.heap:=I.ok.mod.Fn.keeps I.bk
theorem Inv.lt(I:Inv X pins e ρ p s):X.env.locals < s.heap.objs.size:=let ⟨_,hn,_⟩:=I.loc;hn.lt
theorem Inv.sz(I:Inv X pins e ρ p s):X.s₀.heap.objs.size<=s.heap.objs.size:=Sx I.ok.above (Vl I.lt)
theorem Inv.F5(I:Inv X pins e ρ p s){a:Sl}(h:s.heap.objs.size<=a):a ∉ X.fs:=λhb=>by
 obtain⟨_,o,ho,_⟩:=I.ok.sf.mem hb;exact absurd (SK (Su ho) (Sx I.sz h)) (TF _)
theorem Inv.O5(I:Inv X pins e ρ p s): ∀ x c,X.env.cells.lookup x=fI c->c≠X.env.locals:=λx c e z=>by
 obtain⟨v,o,ho,hd⟩:=I.cell x c e;obtain⟨m,⟨o',es,ep,ho',hd',_⟩,_⟩:=I.loc;rw[z,ho'] at ho;cases ho;rw[hd'] at hd;cases hd
theorem Inv.sf(I:Inv X pins e ρ p s):s.heap.FunFrames X.base X.outer:=by
 have all: ∀(l:List Env),(∀ b∈kg l,b∈X.fs)->X.s₀.heap.FunFrames X.base l->s.heap.FunFrames X.base l:=by
  intro l
  induction l with
  | nil=>intro _ _;trivial
  | cons env r ih =>
   intro hs hl
   obtain⟨hk,⟨L,o,hf,hn,ho,hd⟩,hr⟩:=hl
   have hL:L∈X.fs:=hs L (by unfold kg;rw[W6,hf];exact So)
   obtain⟨sl,e⟩:=I.base.slot L o ho (I.ok.OC L hL) hL λz=>I.ok.EX L z hL
   exact⟨hk,⟨L,_,hf,hn,e,hd⟩,ih (λb hb=>hs b (by unfold kg;rw[W6,hf];exact Sk _ hb)) hr⟩
 exact all X.outer (λ_ hb=>hb) I.ok.sf
theorem Inv.stack(I:Inv X pins e ρ p s):s.heap.FunFrames X.base X.stack:=by
 rcases I.ok.Qd with e | ⟨e,hf⟩
 . rw[e];exact I.sf
 . rw[e];obtain⟨m,hn,_⟩:=I.loc;exact .cons (by rw[I.ok.kind];decide) hf hn (Um (Sx I.ok.Nq I.ok.above)) I.sf
theorem Inv.j6(I:Inv X pins e ρ p s): ∀ b∈kg X.stack,b∈X.env.locals::X.fs:=λb hb=>by
 rcases I.ok.Qd with e | ⟨e,hf⟩
 . rw[e] at hb;exact Sk _ hb
 . rw[e] at hb;unfold kg at hb;rw[W6,hf] at hb;exact hb
theorem Inv.nH(I:Inv X pins e ρ p s): ∀ b∈kg X.stack,¬ dF ρ b:=λb hb=>by
 rcases Sd.mp (I.j6 b hb) with e | hb
 . rw[e];exact I.free
 . obtain⟨_,o,ho,_⟩:=I.ok.sf.mem hb;exact I.base.free b o ho (I.ok.OC b hb) λz=>I.ok.EX b z hb
theorem Inv.un{g':Array GenState}{d':Drawn}(I:Inv X pins e ρ p s)(u:Un (X.env.locals::X.fs) ch ρ s.heap ρ' h')(hch:rC X pins ch)(sm:hX X.prog X.w X.base ρ' p' h')(hg:XK g') :
  Inv X pins e ρ' p' { s with heap:=h',gens:=g',drawn:=d',toks:=t'}:=by
 have neL: ∀{b o},X.s₀.heap.get? b=fI o->b≠X.env.locals:=λe=>SW (SK (Su e) I.ok.above);have neC: ∀{b o},X.s₀.heap.get? b=fI o->b ∉ X.ex->b ∉ ch:=λe hx hb=>(hch _ hb).1.elim hx λz=>absurd (Su e) (Uq.mpr z);have cellK: ∀ x c,X.env.cells.lookup x=fI c-> ∀ v,s.heap.IsCell c v->h'.IsCell c v:=λx c e v ⟨o,ho,hd⟩=>let ⟨_,q⟩:=u.any ho (I.oU x c e) λz=>(hch c z).2.2.1 x c e rfl;⟨_,q,hd⟩
 have nL:X.env.locals ∉ ch:=λz=>(hch _ z).2.1 rfl;obtain⟨m,hn,hl⟩:=I.loc;obtain⟨oL,es,ep,hoL,rL⟩:=id hn;obtain⟨sl,hL⟩:=u.any hoL I.free nL;refine⟨I.ok,I.os,hg,⟨λb o e n hb hx=>?_,λb o e n hb hx=>?_,λb o e n hx=>?_,λb o e hx=>?_,I.base.gr.trans u.gr⟩,⟨m,⟨_,es,ep,hL,rL⟩,λi x v e1 e2 e3=>?_⟩,λx c e=>?_,u.free _ oL hoL I.free nL,λx c e=>?_,λq hq=>?_,sm,I.len⟩
 . exact u.keep b o (I.base.keep b o e n hb hx) (I.base.free b o e n hx) (λz=>(Sd.mp z).elim (neL e) hb) (neC e hx)
 . obtain⟨_,e1⟩:=I.base.slot b o e n hb hx;obtain⟨sl',e2⟩:=u.slot b _ e1 (I.base.free b o e n hx) (Sk _ hb) (neC e hx);exact⟨sl',e2⟩
 . obtain⟨o',e1⟩:=I.base.there b o e hx;exact u.free b o' e1 (I.base.free b o e n hx) (neC e hx)
 . obtain⟨o',e1⟩:=I.base.there b o e hx;exact u.there b o' e1 (neC e hx)
 . obtain⟨w,r,l⟩:=hl i x v e1 e2 e3;refine⟨w,r.up u.gr,?_⟩;rcases l with l | ⟨k,c,e,z⟩
   . exact .inl l
   . exact .inr ⟨k,c,e,cellK x c e _ z⟩
 . obtain⟨v,z⟩:=I.cell x c e;exact⟨v,cellK x c e v z⟩
 . obtain⟨v,o,ho,hd⟩:=I.cell x c e;exact u.free c o ho (I.oU x c e) λz=>(hch c z).2.2.1 x c e rfl
 . obtain⟨e,n,ne,nf,d⟩:=I.pin q hq;have nch:q.1 ∉ ch:=λz=>(hch q.1 z).2.2.2 q hq rfl;exact⟨u.keep q.1 q.2 e n (λz=>(Sd.mp z).elim ne nf) nch,u.free q.1 q.2 e n nch,ne,nf,d⟩
theorem Inv.kept(I:Inv X pins e ρ p s)(k: ∀ b u,s.heap.get? b=fI u->h'.get? b=fI u):Inv X pins e ρ p { s with heap:=h',toks:=t'} :=
 I.un (g':=s.gens) (d':=s.drawn) (Un.kept k) .nil (I.sim.keep (Gr.kept k) λb _=>k b) I.bare
theorem Inv.tok(I:Inv X pins e ρ p s):Inv X pins e ρ p { s with toks:=t'}:=I.kept (h':=s.heap) λ_ _ z=>z
theorem Inv.new{q:Sl × Option Sl}{d:Sl}{o:PO}(I:Inv X pins e ρ p s)(hq:q.2=fI d)(k: ∀ b u,s.heap.get? b=fI u->h'.get? b=fI u)(h1:s.heap.objs.size<=q.1)(h2:s.heap.objs.size<=d)(r:jV X.prog X.w X.base (ρ.add [q]) h' q o) :
  Inv X pins e (ρ.add [q]) (p++[o]) { s with heap:=h',toks:=t'}:=I.un (g':=s.gens) (d':=s.drawn) (Un.new hq k h1 h2) .nil (I.sim.new hq k h1 h2 r) I.bare
theorem Inv.wr{i:Nat}{d:Sl}{o o':PO}{q:Sl × Option Sl}(I:Inv X pins e ρ p s)(e1:p[i]?=fI o)(m:o.dq=true)(e2: ρ.l[i]?=fI q)(hq:q.2=fI d)(k: ∀ b u,b≠d->s.heap.get? b=fI u->h'.get? b=fI u)(m':o'.dq=true)(r:jV X.prog X.w X.base ρ h' q o') :
  Inv X pins e ρ (p.set i o') { s with heap:=h',toks:=t'} :=
 I.un (g':=s.gens) (d':=s.drawn) (Un.but (I.sim.wr e1 m e2 hq k) (.inl ⟨KU e2 hq,let ⟨_,u,x,_⟩:=r.there hq;⟨u,x⟩⟩) k) .nil (I.sim.write e1 m e2 hq k m' r) I.bare
theorem Inv.turned{it:Sl}(I:Inv X pins e ρ p s)(g:Gr ρ s.heap ρ h')(k: ∀ b o,b≠it->s.heap.get? b=fI o->h'.get? b=fI o)(hn: ¬ dF ρ it)(hch:rC X pins [it]):Inv X pins e ρ p { s with heap:=h',toks:=t'} :=
 I.un (g':=s.gens) (d':=s.drawn) (ch:=[it]) (Un.but g (.inr (Sf.mpr rfl)) k) hch (I.sim.keep g λb t u z=>k b u (λy=>hn (y ▸ t)) z) I.bare
theorem Inv.call{s':R8}(I:Inv X pins e ρ p s)(ho:s'.os=s.os)(u:Un (kg X.stack) ch ρ s.heap ρ' s'.heap)(sm:hX X.prog X.w X.base ρ' p' s'.heap)(hg:XK s'.gens)(hch:rC X pins ch):Inv X pins e ρ' p' s':=by
 obtain⟨h',g',d',t',o'⟩:=s';cases(show o'=s.os from ho);exact I.un (g':=g') (d':=d') (u.mono I.j6 λ_ z=>z) hch sm hg
theorem Inv.weak{e':ay}(I:Inv X pins e ρ p s)(hl:e'.length=e.length)(w: ∀(i:Nat) v,e'[i]?=fI (fI v)->e[i]?=fI (fI v)):Inv X pins e' ρ p s :=
 ⟨I.ok,I.os,I.bare,I.base,let ⟨m,hn,hl'⟩:=I.loc;⟨m,hn,λi x v e1 e2 e3=>hl' i x v e1 (w i v e2) e3⟩,I.cell,I.free,I.oU,I.pin,I.sim,hl.trans I.len⟩
theorem Inv.kl{pins':List (Sl × Obj)}(I:Inv X pins e ρ p s)(h: ∀ q∈pins',s.heap.get? q.1=fI q.2/\ ¬ dF ρ q.1/\q.1≠X.env.locals/\q.1 ∉ X.fs/\ ∀ v,q.2.data≠ .cell v):Inv X pins' e ρ p s :=
 ⟨I.ok,I.os,I.bare,I.base,I.loc,I.cell,I.free,I.oU,λq hq=>(Ti.mp hq).elim (λz=>I.pin q (Tq _ z)) (h q),I.sim,I.len⟩
abbrev Cx.vz(X:Cx)(E:RZ->R8->Prop):Cx:={ X with xe:=E}
theorem Inv.vz(I:Inv X pins e ρ p s)(E:RZ->R8->Prop):Inv (X.vz E) pins e ρ p s :=
 ⟨⟨I.ok.mod,I.ok.kind,I.ok.glob,I.ok.blt,I.ok.above,I.ok.inj,I.ok.has,I.ok.PW,I.ok.hd,I.ok.frames,I.ok.Qd,I.ok.QZ,I.ok.bs,I.ok.Nq,I.ok.Cg,I.ok.EX,I.ok.sf,I.ok.OC⟩,I.os,I.bare,I.base,I.loc,I.cell,I.free,I.oU,I.pin,I.sim,I.len⟩
end
end _P
end
section
open PySem PySem.W PyProof.Rows
namespace _L
open PySem PySem.Spec PyProof.Rows
structure iV(k:Nat)(A:TP):Prop where
 hd:A.handled=ox
 dp:A.depth+3*k+5 < recursionLimit
 un:A.units+16*k+200 < Zn
 gd:A.guards=fI []
theorem iV.deeper(r:iV (k+1) A) env:iV k (A.deeper env) :=
 ⟨r.hd,by have:=r.dp;show A.depth+1+3*k+5 < _;lia,by have:=r.un;show A.units+3+16*k+200 < _;lia,r.gd⟩
theorem iV.in1(r:iV (k+1) A):iV k A.in1 :=
 ⟨r.hd,by have:=r.dp;show A.depth+3*k+5 < _;lia,by have:=r.un;show A.units+1+16*k+200 < _;lia,r.gd⟩
theorem iV.depth(r:iV k A):A.depth < recursionLimit:=by have:=r.dp;lia
theorem iV.units(r:iV k A):A.units+64 < Zn:=by have:=r.un;lia
theorem iV.L5(r:iV k A):A.units < Zn:=by have:=r.un;lia
noncomputable def noStar:Tr->Bool
 | .Starred _ _=>false
 | _=>true
theorem aL(h:noStar e=true):VU (e::es) env=(false,Wm e env)::VU es env:=by
 cases e<;>first | rfl | cases h
theorem nA: ∀{es},es.all noStar=true->(Ez pos (VU es env)).any (·.1)=false
 | [],_=>rfl
 | e::es,h=>by
  have h:=SU.mp (XW ▸ h);rw[aL h.1];have:=nA (pos:=pos) (env:=env) h.2;exact this
def Binds(K:Sy) fd (ps:List Str) ds :=
 ∀ s us,K.In s.heap->(us++ds).length=ps.length->ZH s fd ⟨us,[]⟩ (ps.zip (us++ds))
def H9 b:= ∀ o i,WO b false o i=Kb [o,i] (WI o i)
theorem He(h:SD M A t Q E s)(hQ: ∀ a s,Q a s->Q' a s):SD M A t Q' E s:=Ub h hQ λ_ _ x=>x
end _L
namespace _P
open PySem PySem.Spec PyProof.Rows _L
section
variable{X:Cx}{pins:List (Sl × Obj)}{e:ay}{ρ :Ps}{p:PH}{s:R8}
theorem tL{M:Model}{A:TP}{E:RZ->R8->Prop}{i:Nat}{x:Str}{v:PV}{u:RZ}{Q:Unit->R8->Prop}(I:Inv X pins e ρ p s)(hN:X.N.Nodup)(hi:X.N[i]?=fI x)(hx:Loc X.env.scope x)(r:rel ρ s.heap v u)
  (h: ∀ s',Inv X pins (e.set i (fI v)) ρ p s'->Gr ρ s.heap ρ s'.heap->(∃ a,Xa a s.heap s'.heap/\(a=X.env.locals\/X.env.cells.lookup x=fI a))->Q () s') (hf:autoParam (X.fn x=true\/X.env.scope.names.lookup x=fI .local) kX):SD M A (storeName X.env x u) Q E s:=by
 obtain⟨m,hn,hl⟩:=id I.loc;have hie:i < e.length:=by rw[I.len];exact(RY.mp hi).1
 have O5:=I.O5;have go: ∀{a:Sl}{h':SM}{t':Nat},Xa a s.heap h'->(∃ o,s.heap.get? a=fI o/\ ∀ us n,o.data≠ .seq us n)-> ¬ dF ρ a->X.s₀.heap.objs.size<=a->(∀ q∈X.pn++pins,q.1≠a)->(∃ u,h'.get? a=fI u) ->
   (∃ m',h'.Ns X.env.locals m'/\ ∀(j:Nat)(y:Str)(w:PV),X.N[j]?=fI y->(e.set i (fI v))[j]?=fI (fI w)->Qa X.env.scope y-> ∃ u,rel ρ h' w u/\Look X.env h' m' y u)->(∀ y c,X.env.cells.lookup y=fI c-> ∃ w,h'.IsCell c w) ->
   Inv X pins (e.set i (fI v)) ρ p { s with heap:=h',toks:=t'}/\Gr ρ s.heap ρ h':=λ{a h' t'} sb ⟨oa,ha,nd⟩ nt lo np hz lc cl=>by
  have k: ∀ b o,b≠a->s.heap.get? b=fI o->h'.get? b=fI o:=λb o n z=>(sb.2 b n).trans z;have g:Gr ρ s.heap ρ h':=(.of λc o z c1 ⟨us,n,d⟩=>⟨o.slots,k _ _ (λy=>by subst y;rw[ha] at z;cases z;exact nd _ _ d) z⟩)
  have ne: ∀{b o},X.s₀.heap.get? b=fI o->b≠a:=λz=>SW (SK (Su z) lo);refine⟨⟨I.ok,I.os,I.bare,⟨λb o z n hb hx=>k b o (ne z) (I.base.keep b o z n hb hx),λb o z n hb hx=>?_,I.base.free,λb o z hx=>?_,I.base.gr.trans g⟩,lc,cl,I.free,I.oU,λq hq=>?_,I.sim.keep g λb t u z=>k b u (λy=>nt (y ▸ t)) z,by rw[Td];exact I.len⟩,g⟩
  . obtain⟨sl,e1⟩:=I.base.slot b o z n hb hx;exact⟨sl,k _ _ (ne z) e1⟩
  . obtain⟨o',e1⟩:=I.base.there b o z hx;exact⟨o',k _ _ (ne z) e1⟩
  . obtain⟨z,r⟩:=I.pin q hq;exact⟨k _ _ (np q hq) z,r⟩
 have hcls:(X.env.scope.kind == .class||(X.env.scope.kind == .module&&X.env.locals !=X.env.globals))=false:=by rw[I.ok.kind];rfl
 rcases hx with hk | hk
 . refine wpAny_storeName_local hk hn (λh' hn' hs=>?_) hcls;obtain⟨oL,es,ep,hoL,dL,_⟩:=id hn;have G:Gr ρ s.heap ρ h':=(.of λb o zz c1 ⟨us,n,d⟩=>⟨o.slots,(hs.2 _ (λy=>by subst y;rw[hoL] at zz;cases zz;rw[dL] at d;cases d)).trans zz⟩)
   obtain⟨J,g⟩:=go hs ⟨oL,hoL,λus n z=>by rw[dL] at z;cases z⟩ I.free I.ok.above (λq hq=>(I.pin q hq).2.2.1) (let ⟨o,_,_,z,_⟩:=hn';⟨o,z⟩) ⟨_,hn',λj y w e1 e2 e3=>by
    by_cases hj:j=i
    . subst hj;rw[hi] at e1;cases e1;rw[SV hie] at e2;cases e2;exact⟨u,r.up G,.inl ⟨hk,if_pos rfl⟩⟩
    . rw[Te (VC hj)] at e2;obtain⟨u',r',q⟩:=hl j y w e1 e2 e3;refine⟨u',r'.up G,?_⟩;rcases q with⟨k,z⟩ | ⟨k,c,z,y⟩
      . have ny:y≠x:=λee=>hj (x8 hN e1 (ee ▸ hi));exact .inl ⟨k,(if_neg ny).trans z⟩
      . exact .inr ⟨k,c,z,y.sameBut hs (O5 _ c z)⟩⟩ λy c z=>let ⟨w,q⟩:=I.cell y c z;⟨w,q.sameBut hs (O5 y c z)⟩
   exact h _ J g ⟨_,hs,.inl rfl⟩
 . have hfn:X.fn x=true:=by
    rcases hf with z | z
    . exact z
    . rw[z] at hk;cases hk
   obtain⟨c,hc⟩:=I.ok.has x (.inl hk);obtain⟨w',z⟩:=I.cell x c hc;refine wpAny_storeName_cell I.ok.kind hk hc z (λh' hc' hs=>?_);obtain⟨oc,hoc,dc⟩:=id z;have G:Gr ρ s.heap ρ h':=(.of λb o zz c1 ⟨us,n,d⟩=>⟨o.slots,(hs.2 _ (λy=>by subst y;rw[hoc] at zz;cases zz;rw[dc] at d;cases d)).trans zz⟩)
   obtain⟨J,g⟩:=go hs ⟨oc,hoc,λus n z=>by rw[dc] at z;cases z⟩ (I.oU x c hc) (I.ok.PW x c hfn hc) (λq hq y=>by
    obtain⟨ez,_,_,_,d⟩:=I.pin q hq;rw[y,hoc] at ez;exact d w' (by rw[<- SY ez];exact dc)) (let ⟨o,z,_⟩:=hc';⟨o,z⟩) ⟨m,hn.sameBut hs (VC (O5 x c hc)),λj y v' e1 e2 e3=>by
    by_cases hj:j=i
    . subst hj;rw[hi] at e1;cases e1;rw[SV hie] at e2;cases e2;exact⟨u,r.up G,.inr ⟨.inl hk,c,hc,hc'⟩⟩
    . rw[Te (VC hj)] at e2;obtain⟨u',r',q⟩:=hl j y v' e1 e2 e3;refine⟨u',r'.up G,?_⟩;rcases q with q | ⟨k,c',e,z'⟩
      . exact .inl q
      . refine .inr ⟨k,c',e,z'.sameBut hs ?_⟩;rintro rfl;exact hj (x8 hN e1 (I.ok.inj _ _ _ e hc ▸ hi))⟩ λy c' e=>by
    by_cases hcc:c'=c
    . subst hcc;exact⟨_,hc'⟩
    . obtain⟨w2,z2⟩:=I.cell y c' e;exact⟨w2,z2.sameBut hs hcc⟩
   exact h _ J g ⟨c,hs,.inr hc⟩
theorem wm{M:Model}{A:TP}{E:RZ->R8->Prop}{i:Nat}{x:Str}{v:PV}{u:RZ}{Q:Unit->R8->Prop}(I:Inv X pins e ρ p s)(hN:X.N.Nodup)(hi:X.N[i]?=fI x)(hx:Loc X.env.scope x)(r:rel ρ s.heap v u)
  (h: ∀ s',Inv X pins (e.set i (fI v)) ρ p s'->Gr ρ s.heap ρ s'.heap->Q () s') (hf:autoParam (X.fn x=true\/X.env.scope.names.lookup x=fI .local) kX):SD M A (storeName X.env x u) Q E s :=
 tL I hN hi hx r (λs' J g _=>h s' J g) hf
def Gl(X:Cx) x:=X.env.kindOf x=fI .globalImplicit
theorem mU{E:RZ->R8->Prop}{x:Str}{u:RZ}{pos:Pos}{Q:RZ->R8->Prop}(I:Inv X pins e ρ p s)(hg:Gl X x)(hm:X.mg x=fI u)(h:Q u s)(hd:autoParam ((x == ("__debug__" :Str))=false) cT):SD (SN X.prog X.w) X.A (Wm (.Name x pos) X.env) Q E s :=
 Xi I.ok.kind hg (Calls.loadGlobal_global (by rw[I.ok.glob];exact I.ok.mod.glob.keeps I.bk) hm h) hd
theorem gO{E:RZ->R8->Prop}{x:Str}{u:RZ}{pos:Pos}{Q:RZ->R8->Prop}(I:Inv X pins e ρ p s)(hg:Gl X x)(hm:X.mg x=ox)(hv:Wj x=fI u)(h:Q u s)
  (hn:autoParam (x≠ "__name__") cT) (hd:autoParam ((x == ("__debug__" :Str))=false) cT):SD (SN X.prog X.w) X.A (Wm (.Name x pos) X.env) Q E s:=by
 obtain⟨mb,h1,h2⟩:=I.ok.mod.blt;exact Xi I.ok.kind hg (Calls.loadGlobal_builtin (by rw[I.ok.glob];exact I.ok.mod.glob.keeps I.bk) hm (by rw[I.ok.blt];exact h1.keeps I.bk) ((h2 x hn).trans hv) h) hd
end
inductive IQ(n:Nat)(ρ :Ps)(h:SM)(x C dx:Sl):Prop
 | mk (oe:Obj) (vs:Array RZ) (e:h.get? x=fI oe) (c:oe.cls= .ref C) (d:oe.dict=fI dx) (f:oe.data= .fields vs) (lo:n<=x) (nt: ¬ dF ρ x)
   (tb:vs[1]?=fI .none\/ ∃ T oT ts fl,vs[1]?=fI (.ref T)/\T≠x/\n<=T/\ ¬ dF ρ T/\h.get? T=fI oT/\oT.data= .fields ts/\ts[3]?=fI fl)
inductive Flying(P:SP)(w:Tp)(base:SM)(fs ch:List Sl)(ρ :Ps)(s:R8)(C:Sl)(us:List (Str × PV))(p':PH)(e:RZ)(s':R8):Prop
 | mk (x dx:Sl) (ρ':Ps) (eq:e= .ref x) (os:s'.os=s.os) (bare:XK s'.gens) (un:Un fs ch ρ s.heap ρ' s'.heap) (sim:hX P w base ρ' p' s'.heap) (Q0:IQ s.heap.objs.size ρ' s'.heap x C dx) (att:uM ρ' s'.heap dx us) (lo:s.heap.objs.size<=dx) (nt: ¬ dF ρ' dx)
def Lh(X:Cx)(C:Sl)(us:List (Str × PV))(p':PH):Prop:= ∀ pins e ρ p s v s' ch,Inv X pins e ρ p s->rC X pins ch->Flying X.prog X.w X.base (kg X.stack) ch ρ s C us p' v s'->X.xe v s'
def Out(X:Cx){α :Type}(R: α ->PH->Prop):RV α ->Prop
 | .ok a p=>R a p
 | .ex C us p=>Lh X C us p
 | .no=>False
theorem Out.go{X:Cx}{α β :Type}{R: β ->PH->Prop}{R': α ->PH->Prop}{f: α ->PH->RV β}: ∀{r:RV α},Out X R (r.bind f)->(∀ a p,Out X R (f a p)->R' a p)->Out X R' r
 | .ok a p,o,k=>k a p o
 | .ex _ _ _,o,_=>o
 | .no,o,_=>o
theorem Out.mp{X:Cx}{α :Type}{R R': α ->PH->Prop}: ∀{r:RV α},Out X R r->(∀ a p,R a p->R' a p)->Out X R' r
 | .ok a p,o,k=>k a p o
 | .ex _ _ _,o,_=>o
 | .no,o,_=>o
theorem Out.RL{X:Cx}{β :Type}{R: β ->PH->Prop}{R':PV->PH->Prop}{f:Bool->PH->RV β}: ∀{r:RV PV},Out X R ((r.bind ur).bind f)->(∀ b p,Out X R (f b p)->R' (.bl b) p)->Out X R' r
 | .ok (.bl b) p,o,k=>k b p o
 | .ex _ _ _,o,_=>o
theorem Out.jD{X:Cx}{α :Type}{R: α ->PH->Prop}{n:Nat}{r:RV α}(o:Out X R (jD n r)):n<=sizeLine/\Out X R r:=by
 unfold _P.jD at o;split at o
 . exact⟨by assumption,o⟩
 . exact o.elim
theorem Out.ite{X:Cx}{α :Type}{R: α ->PH->Prop}{c:Prop}[Decidable c]{r:RV α}(o:Out X R (if c then r else .no)):c/\Out X R r:=by
 split at o
 . exact⟨by assumption,o⟩
 . exact o.elim
def RE(X:Cx)(pins:List (Sl × Obj))(e:ay)(ρ :Ps)(h:SM)(Q:RZ->R8->Prop):PV->PH->Prop:=λv p=> ∀ ρ' s' u,Gr ρ h ρ' s'.heap->Inv X pins e ρ' p s'->rel ρ' s'.heap v u->Q u s'
def RT(X:Cx)(pins:List (Sl × Obj))(e:ay)(ρ :Ps)(h:SM)(Q:Bool->R8->Prop):Bool->PH->Prop:=λb p=> ∀ ρ' s',Gr ρ h ρ' s'.heap->Inv X pins e ρ' p s'->Q b s'
def RA(X:Cx)(pins:List (Sl × Obj))(e:ay)(ρ :Ps)(h:SM)(Q:List RZ->R8->Prop):List PV->PH->Prop:=λvs p=> ∀ ρ' s' us,Gr ρ h ρ' s'.heap->Inv X pins e ρ' p s'->aB ρ' s'.heap vs us->Q us s'
def RN(X:Cx)(pins:List (Sl × Obj))(ρ :Ps)(h:SM)(Q:Unit->R8->Prop):ay->PH->Prop:=λe p=> ∀ ρ' s',Gr ρ h ρ' s'.heap->Inv X pins e ρ' p s'->Q () s'
def RS(X:Cx)(pins:List (Sl × Obj))(ρ :Ps)(h:SM)(Q:Flow->R8->Prop):Fl->PH->Prop
 | .nx e,p=> ∀ ρ' s',Gr ρ h ρ' s'.heap->Inv X pins e ρ' p s'->Q .next s'
 | .bk e,p=> ∀ ρ' s',Gr ρ h ρ' s'.heap->Inv X pins e ρ' p s'->Q .brk s'
 | .ct e,p=> ∀ ρ' s',Gr ρ h ρ' s'.heap->Inv X pins e ρ' p s'->Q .cont s'
 | .rt v,p=> ∀ e ρ' s' u,Gr ρ h ρ' s'.heap->Inv X pins e ρ' p s'->rel ρ' s'.heap v u->Q (.ret u) s'
section
variable{X:Cx}{pins:List (Sl × Obj)}{e:ay}{ρ ρ1:Ps}{h h1:SM}
theorem Out.up{Q:RZ->R8->Prop}{r:RV PV}(o:Out X (RE X pins e ρ h Q) r)(g:Gr ρ h ρ1 h1):Out X (RE X pins e ρ1 h1 Q) r:=o.mp λ_ _ z ρ' s' u g'=>z ρ' s' u (g.trans g')
theorem Out.Rr{Q:Bool->R8->Prop}{r:RV Bool}(o:Out X (RT X pins e ρ h Q) r)(g:Gr ρ h ρ1 h1):Out X (RT X pins e ρ1 h1 Q) r:=o.mp λ_ _ z ρ' s' g'=>z ρ' s' (g.trans g')
theorem Out.Rf{Q:Unit->R8->Prop}{r:RV ay}(o:Out X (RN X pins ρ h Q) r)(g:Gr ρ h ρ1 h1):Out X (RN X pins ρ1 h1 Q) r:=o.mp λ_ _ z ρ' s' g'=>z ρ' s' (g.trans g')
theorem RS.up{Q:Flow->R8->Prop}{f:Fl}{p:PH}(o:RS X pins ρ h Q f p)(g:Gr ρ h ρ1 h1):RS X pins ρ1 h1 Q f p:=match f,o with
 | .nx _,z=>fun ρ' s' g'=>z ρ' s' (g.trans g')
 | .bk _,z=>fun ρ' s' g'=>z ρ' s' (g.trans g')
 | .ct _,z=>fun ρ' s' g'=>z ρ' s' (g.trans g')
 | .rt _,z=>λe ρ' s' u g'=>z e ρ' s' u (g.trans g')
theorem Out.O4{Q:Flow->R8->Prop}{r:RV Fl}(o:Out X (RS X pins ρ h Q) r)(g:Gr ρ h ρ1 h1):Out X (RS X pins ρ1 h1 Q) r:=o.mp λ_ _ z=>RS.up z g
end
structure JM(P:SP)(w:Tp)(K:Sy)(mg:Str->Option RZ)(base:SM)(A:TP)(outer:List Env)(s:R8)(ρ :Ps)(p:PH):Prop where
 frames:A.frames=fI outer
 mod:Mod K mg base
 bs: ∀ b o,base.get? b=fI o->s.heap.get? b=fI o/\ ¬ dF ρ b
 Nq:base.objs.size<=s.heap.objs.size
 sf:s.heap.FunFrames base outer
 OC: ∀ b∈kg outer,¬ dF ρ b
 sim:hX P w base ρ p s.heap
 bare:XK s.gens
structure After(P:SP)(w:Tp)(base:SM)(outer:List Env)(ρ :Ps)(s:R8)(p':PH)(ρ':Ps)(s':R8):Prop where
 os:s'.os=s.os
 bare:XK s'.gens
 un:Un (kg outer) [] ρ s.heap ρ' s'.heap
 sim:hX P w base ρ' p' s'.heap
def Kv(P:SP)(w:Tp)(base:SM)(outer:List Env)(ρ :Ps)(s:R8)(R:vD->R8->Prop):RV PV->Prop
 | .ok v p'=> ∀ ρ' s' u,After P w base outer ρ s p' ρ' s'->rel ρ' s'.heap v u->R (.ok (.ret u)) s'
 | .ex C us p'=> ∀ e s',Flying P w base (kg outer) [] ρ s C us p' e s'->R (.error e) s'
 | .no=>False
def uS(P:SP)(w:Tp)(K:Sy)(mg:Str->Option RZ)(base:SM)(k:Nat)(f:Sl)(fd:Vt)(ps:List Str)(sem:List PV->PH->RV PV):Prop :=
 ∀(A:TP)(outer:List Env)(s:R8)(ρ :Ps)(p:PH)(args:Args)(us:List RZ)(xs:List PV)(R:vD->R8->Prop),iV k A->JM P w K mg base A outer s ρ p->ZH s fd args (ps.zip us)->aB ρ s.heap xs us->Kv P w base outer ρ s R (sem xs p) ->
  WJ (SN P w) A (.call (.ref f) args) R s
def IU(P:SP)(w:Tp)(K:Sy)(mg:Str->Option RZ)(base:SM)(x:Str)(k:Nat)(ps:List Str)(sem:List PV->PH->RV PV):Prop :=
 ∃(f:Sl)(fd:Vt),uS P w K mg base k f fd ps sem/\mg x=fI (.ref f)/\Vf K (.ref f)=true/\Binds K fd ps []/\(∀ xs p,sem xs p≠ .no->xs.length=ps.length)
theorem Inv.yK{X:Cx}{pins:List (Sl × Obj)}{e:ay}{ρ :Ps}{p:PH}{s:R8}(I:Inv X pins e ρ p s):JM X.prog X.w X.K X.mg X.base X.A X.stack s ρ p :=
 ⟨I.ok.frames,I.ok.mod,I.bs,Sx I.ok.Nq I.sz,I.stack,I.nH,I.sim,I.bare⟩
theorem MM{X:Cx}{pins:List (Sl × Obj)}{e:ay}{ρ :Ps}{p:PH}{s:R8}{k:Nat}{f:Sl}{fd:Vt}{ps:List Str}{sem:List PV->PH->RV PV}{xs:List PV}{us:List RZ}{Q:RZ->R8->Prop}
  (F:uS X.prog X.w X.K X.mg X.base k f fd ps sem) (hr:iV k X.A) (hb:Binds X.K fd ps []) (hl:xs.length=ps.length) (I:Inv X pins e ρ p s) (r:aB ρ s.heap xs us) (o:Out X (RE X pins e ρ s.heap Q) (sem xs p)):SD (SN X.prog X.w) X.A (call (.ref f) us) Q X.xe s:=by
 have hb':=hb s us I.B3 (by rw[SA,<- r.len];exact hl);rw[SA] at hb';refine wpAny_call (F X.A X.stack s ρ p ⟨us,[]⟩ us xs _ hr I.yK hb' r ?_)
 revert o
 cases sem xs p with
 | ok v p'=>exact λo ρ' s' u a r'=>o ρ' s' u a.un.gr (I.call a.os a.un a.sim a.bare .nil) r'
 | ex C us p'=>exact λo e' s' fl=>o pins e ρ p s e' s' [] I .nil fl
 | no=>exact λo=>o.elim
end _P
end
section
open PySem PySem.W PyProof.Rows
namespace _L
open PySem PySem.Spec PyProof.Rows
structure Qk(K:Sy)(C:Sl):Prop where
 pg:QD K C Str.empty=true
 hd:EP K C=true
 po:PySem.W.plainOver K C=true
 sa:UR K (.ref C) "__setattr__" =fI (fI (.builtin "object.__setattr__"))
theorem Qk.get{K}(c:Qk K C) f:QD K C f=true:=c.pg
def Nh K C f:=UR K (.ref C) f=fI ox
structure Meth(K:Sy)(C:Sl)(m:Str)(f:Sl):Prop where
 at_:UR K (.ref C) m=fI (fI (.ref f))
 fn:Pn K (.ref f)=true
 kp:Vf K (.ref f)=true
theorem Dm b (h:autoParam (op≠ .In) cT) (h2:autoParam (op≠ .NotIn) cT):XY op b=false:=by
 have e1:(op == CmpOp.In)=false:=by simp_all
 have e2:(op == CmpOp.NotIn)=false:=by simp_all
 cases b<;>simp[XY,e1,e2]
end _L
namespace _P
open PySem PySem.Spec PyProof.Rows _L
def Pv(K:Sy)(ρ :Ps):Prop:= ∀ a∈ ρ.pv,K.lookup a=ox
theorem Inv.Pd{X:Cx}{pins:List (Sl × Obj)}{v:ay}{ρ :Ps}{p:PH}{s:R8}(I:Inv X pins v ρ p s):Pv X.K ρ :=λa m=>by
 cases e:X.K.lookup a with
 | none=>rfl
 | some o=>have:=I.sim.Nu a m;rw[I.ok.mod.Fn a o e] at this;cases this
structure JC(K:Sy)(v:PV)(u:RZ):Prop where
 r: ∀ ρ h,K.In h->Pv K ρ ->rel ρ h v u
 n: ∀ a,u= .ref a-> ∃ o,K.lookup a=fI o/\o.cls= .type "tuple" /\o.dict=ox
structure KD(P:SP)(w:Tp)(K:Sy)(a:Sl)(kvs:List (Key × PV)):Prop where
 n:(a == U9)=false/\ ∃ o,K.lookup a=fI o
 h: ∃ kus,kus.length<=sizeLine/\ ∀ h,K.In h->h.DictOf (bg P w) a kus/\ ∀ ρ,Pv K ρ ->RK ρ h kvs kus
structure NI(K:Sy)(mg:Str->Option RZ)(pg:Tb):Prop where
 adr: ∀ c q,pg.adr c=fI q->Qk K q.1/\ ∀ f∈q.2,Nh K q.1 f
 cls: ∀ x q,pg.cls x=fI q->mg (SO x)=fI (.ref q.1)/\uU K q.1=true/\Vf K (.ref q.1)=true/\ ∃ c d l,pg.P5 q.2=fI (c,("__init__" :Str),d)/\pg.adr c=fI (q.1,l)
def Ph(P:SP)(w:Tp)(K:Sy)(mg:Str->Option RZ)(base:SM)(pg:Tb)(j:Nat):Prop :=
 ∀ fn c m d,pg.P5 fn=fI (c,m,d)->pg.fns fn=ox/\ ∀ q,pg.adr c=fI q-> ∃ fa fd,Meth K q.1 m fa/\uS P w K mg base j fa fd d.ps (run pg j fn)/\Binds K fd d.ps []
structure dz(X:Cx)(pg:Tb)(k:Nat):Prop where
 room:iV k X.A
 calm:X.calm=true
 own: ∃ yK out0 L,X.stack=yK::out0/\yK.frame=fI L/\X.env.frame=fI L
 defs: ∀ f d,pg.fns f=fI d->IU X.prog X.w X.K X.mg X.base (SO f) k d.ps (run pg k f)
 blt: ∀ x∈iO,X.mg x=ox
 con: ∀ x v,pg.con x=fI v-> ∃ u,X.mg x=fI u/\JC X.K v u
 xG: ∀ x kvs,pg.xG x=fI kvs-> ∃ a,X.mg x=fI (.ref a)/\KD X.prog X.w X.K a kvs
 ct:NI X.K X.mg pg
 mt: ∀ j,j<=k->Ph X.prog X.w X.K X.mg X.base pg j
structure JE(X:Cx)(pg:Tb)(k:Nat)(e:Tr)(m:ME):Prop where
 h: ∀{pins v ρ p s Q},dz X pg k->Inv X pins v ρ p s->Out X (RE X pins v ρ s.heap Q) (m (run pg k) v p)->SD (SN X.prog X.w) X.A (Wm e X.env) Q X.xe s
structure JT(X:Cx)(pg:Tb)(k:Nat)(e:Tr)(m:MT):Prop where
 h: ∀{pins v ρ p s Q},dz X pg k->Inv X pins v ρ p s->Out X (RT X pins v ρ s.heap Q) (m (run pg k) v p)->SD (SN X.prog X.w) X.A (isTrue e X.env (Wm e X.env)) Q X.xe s
structure JW(X:Cx)(pg:Tb)(k:Nat)(e:Tr)(m:MT):Prop where
 h: ∀{whole pins v ρ p s Q},dz X pg k->Inv X pins v ρ p s->Out X (RT X pins v ρ s.heap Q) (m (run pg k) v p)->SD (SN X.prog X.w) X.A (isTrue e X.env whole) Q X.xe s
structure JA(X:Cx)(pg:Tb)(k:Nat)(es:List Tr)(m:MA):Prop where
 h: ∀{pos pins v ρ p s Q},dz X pg k->Inv X pins v ρ p s->Out X (RA X pins v ρ s.heap Q) (m (run pg k) v p)->SD (SN X.prog X.w) X.A (spliced (Ez pos (VU es X.env))) Q X.xe s
structure JS(X:Cx)(pg:Tb)(k:Nat)(st:XX)(m:MS):Prop where
 h: ∀{pins v ρ p s Q},dz X pg k->Inv X pins v ρ p s->Out X (RS X pins ρ s.heap Q) (m (run pg k) v p)->SD (SN X.prog X.w) X.A (exec st X.env) Q X.xe s
structure BS(X:Cx)(pg:Tb)(k:Nat)(st:List XX)(m:MS):Prop where
 h: ∀{pins v ρ p s Q},dz X pg k->Inv X pins v ρ p s->Out X (RS X pins ρ s.heap Q) (m (run pg k) v p)->SD (SN X.prog X.w) X.A (execs st X.env) Q X.xe s
structure JG(X:Cx)(pg:Tb)(k:Nat)(e:Tr)(m:MG):Prop where
 h: ∀{pins v ρ p s Q x u},dz X pg k->Inv X pins v ρ p s->rel ρ s.heap x u->Out X (RN X pins ρ s.heap Q) (m x v p)->SD (SN X.prog X.w) X.A (XZ e X.env u) Q X.xe s
structure OY(X:Cx)(pg:Tb)(k:Nat)(es:List Tr)(m:List PV->ay->PH->RV ay):Prop where
 h: ∀{pins v ρ p s Q xs us},dz X pg k->Inv X pins v ρ p s->aB ρ s.heap xs us->Out X (RN X pins ρ s.heap Q) (m xs v p)->SD (SN X.prog X.w) X.A (assignInOrder ((WE es X.env).map (·.2)) us) Q X.xe s
structure JF(X:Cx)(pg:Tb)(k:Nat)(ifs:List Tr)(m:MT):Prop where
 h: ∀{pins v ρ p s Q},dz X pg k->Inv X pins v ρ p s->Out X (RT X pins v ρ s.heap Q) (m (run pg k) v p) ->
  SD (SN X.prog X.w) X.A (forIn ifs true λc r=>if r=true then do let ok <- isTrue c X.env (Wm c X.env);pure (Vu ok) else pure (Vu r)) Q X.xe s
def O2(X:Cx)(g:RZ->RZ->Sem RZ)(f:PV->PV->PH->RV PV):Prop:= ∀{pins v ρ p s Q x y u w},Inv X pins v ρ p s->rel ρ s.heap x u->rel ρ s.heap y w->Out X (RE X pins v ρ s.heap Q) (f x y p)->SD (SN X.prog X.w) X.A (g u w) Q X.xe s
def OL(X:Cx)(g:List RZ->Sem RZ)(f:List PV->PH->RV PV):Prop:= ∀{pins v ρ p s Q xs us},Inv X pins v ρ p s->aB ρ s.heap xs us->Out X (RE X pins v ρ s.heap Q) (f xs p)->SD (SN X.prog X.w) X.A (g us) Q X.xe s
structure OM(X:Cx)(T id:String)(f:PV->List PV->PH->RV PV)(ty:PV->PH->Bool):Prop where
 ty: ∀{pins v ρ p s x u},Inv X pins v ρ p s->rel ρ s.heap x u->ty x p=true->s.TypeIs u T/\ ∀ a,u= .ref a-> ∃ ob,s.heap.get? a=fI ob/\ob.dict=ox
 h: ∀{pins v ρ p s Q x u xs us},Inv X pins v ρ p s->rel ρ s.heap x u->aB ρ s.heap xs us->Out X (RE X pins v ρ s.heap Q) (f x xs p)->SD (SN X.prog X.w) X.A (call (.builtin id) (u::us)) Q X.xe s
section
variable{X:Cx}{pins:List (Sl × Obj)}{v:ay}{ρ :Ps}{p:PH}{s:R8}{α :Type}
theorem Out.pure{Q:RZ->R8->Prop}{y:PV}{u:RZ}{t':Nat}(o:Out X (RE X pins v ρ s.heap Q) (.ok y p))(I:Inv X pins v ρ p s)(r:rel ρ s.heap y u):Q u { s with toks:=t'}:=o ρ _ u .refl I.tok r
theorem Out.cg{Q:RZ->R8->Prop}{y:PV}{u:RZ}(o:Out X (RE X pins v ρ s.heap Q) (.ok y p))(I:Inv X pins v ρ p s)(r:rel ρ s.heap y u):Q u s:=o ρ s u .refl I r
end
section
variable{X:Cx}{pg:Tb}{k:Nat}{a b c d e:Tr}{es:List Tr}{ma mb mc md:ME}{mr:MA}{mt mt':MT}{pos p pos' apos cpos:Pos}{x:Str}
theorem Kh(i:Nat){x:Str}{pos:Pos}(hN:autoParam (X.N[i]?=fI x) aG)(hv:autoParam (Qa X.env.scope x) kX)(hd:autoParam ((x == ("__debug__" :Str))=false) cT)
  (hcd:autoParam ((x == ("__classdict__" :Str))=false) cT):JE X pg k (.Name x pos) (aa i):=⟨λ{_ v _ p s Q} _ I o=>by
 unfold aa at o;split at o
 . rename_i w e;obtain⟨m,hn,hl⟩:=I.loc;obtain⟨u,r,l⟩:=hl i x w hN e hv;have fin:Q u s:=o.cg I r;rcases l with⟨hk,hm⟩ | ⟨hk | hk,c,hc,hcell⟩
   . exact wpAny_Name (wpAny_loadName_local I.ok.kind hk hn hm fin) hd
   . exact wpAny_Name (wpAny_loadName_cell I.ok.kind hk hc hcell fin) hd
   . exact wpAny_Name (wpAny_loadName_free I.ok.kind hk hc hcell fin hcd) hd
 . exact o.elim⟩
theorem Lc{n:Int}{j:Nat}:JE X pg k (.Constant (.int n) j pos) (eC (.int n)):=⟨λ_ I o=>wpAny_Constant_int (o.pure I ⟨_,rfl⟩)⟩
theorem NH{n:Bool}{j:Nat}:JE X pg k (.Constant (.bool n) j pos) (eC (.bl n)):=⟨λ_ I o=>Constant_bool (o.cg I rfl)⟩
theorem Kn{j:Nat}:JE X pg k (.Constant .none j pos) (eC .non):=⟨λ_ I o=>X0 (o.cg I rfl)⟩
theorem L4{n:Str}{j:Nat}:JE X pg k (.Constant (.str n) j pos) (eC (.str n)):=⟨λ_ I o=>Calls.Constant_str (o.pure I ⟨_,rfl⟩)⟩
theorem Ki{v:PV}(hc:pg.con x=fI v)(hg:Gl X x)(hd:autoParam ((x == ("__debug__" :Str))=false) cT):JE X pg k (.Name x pos) (eC v):=⟨λA I o=>let ⟨_,e1,c⟩:=A.con x v hc;mU I hg e1 (o.cg I (c.r _ _ I.B3 I.Pd)) hd⟩
theorem xj{T:String}(hg:Gl X x)(hb:x∈iO)(hv:Wj x=fI (.type T))(hn:autoParam (x≠ "__name__") cT)(hd:autoParam ((x == ("__debug__" :Str))=false) cT):JE X pg k (.Name x pos) (eC (.ty T)) :=
 ⟨λA I o=>gO I hg (A.blt x hb) hv (o.cg I rfl) hn hd⟩
theorem OI{op:Operator}{f:PV->PV->PH->RV PV}(ho:dz X pg k->O2 X (Xj op) f)(ha:JE X pg k a ma)(hb:JE X pg k b mb):JE X pg k (.BinOp a op b pos) (ao f ma mb) :=
 ⟨λA I o=>wpAny_BinOp (ha.h A I (o.go λ_ _ o _ _ _ g1 I1 r1=>hb.h A I1 (o.go λ_ _ o _ _ _ g2 I2 r2=>ho A I2 (r1.up g2) r2 (o.up (g1.trans g2)))))⟩
theorem Dg{op:CmpOp}{f:PV->PV->PH->RV PV}(ho:dz X pg k->O2 X (UA op) f)(ha:JE X pg k a ma)(hb:JE X pg k b mb)(hm:XY op b=false):JE X pg k (.Compare a [op] [b] pos) (ao f ma mb) :=
 ⟨λA I o=>wpAny_Compare1 (ha.h A I (o.go λ_ _ o _ _ _ g1 I1 r1=>hb.h A I1 (o.go λ_ _ o _ _ _ g2 I2 r2=>ho A I2 (r1.up g2) r2 (o.up (g1.trans g2))))) hm⟩
theorem AB{pins:List (Sl × Obj)}{v:ay}{ρ :Ps}{h:SM}{Q:Bool->R8->Prop}{r:RV PV}(o:Out X (RT X pins v ρ h Q) (r.bind ur)):Out X (RE X pins v ρ h λu s=> ∃ b,u= .bool b/\Q b s) r :=
 Out.go (R:=RT X pins v ρ h Q) o λy p o ρ' s' u g I ru=>by
  cases y with
  | bl b=>exact⟨b,ru,o ρ' s' g I⟩
  | _=>exact o.elim
theorem Fb{op:CmpOp}{f:PV->PV->PH->RV PV}(ho:dz X pg k->O2 X (UA op) f)(ha:JE X pg k a ma)(hb:JE X pg k b mb)(hm:XY op b=false):JT X pg k (.Compare a [op] [b] pos) (aF (ao f ma mb)) :=
 ⟨λA I o=>WA (ha.h A I ((AB o).go λ_ _ o _ _ _ g1 I1 r1=>hb.h A I1 (o.go λ_ _ o _ _ _ g2 I2 r2=>He (ho A I2 (r1.up g2) r2 (o.up (g1.trans g2))) λ_ _ ⟨_,e,q⟩=>by subst e;exact Ud q))) hm⟩
theorem aaX(ha:JE X pg k e ma)(he:autoParam (∀ whole,isTrue e X.env whole=(do let v <- whole;standAt e.pos;LJ [v] (truthy v))) aG):JT X pg k e (aF ma) :=
 ⟨λA I o=>isTrue_plain (He (ha.h A I (AB o)) λ_ _ ⟨_,e,q⟩=>by subst e;exact Ud q) (he _)⟩
theorem GH{pins:List (Sl × Obj)}{v:ay}{ρ :Ps}{h:SM}{R:PV->PH->Prop}{r:RV PV}{f:Bool->PH->RV PV}{Q:RZ->R8->Prop}(o:Out X R ((r.bind ur).bind f))(k: ∀ b ρ' p' s',Gr ρ h ρ' s'.heap->Inv X pins v ρ' p' s'->Out X R (f b p')->Q (.bool b) s'):Out X (RE X pins v ρ h Q) r :=
 o.RL λb p' o ρ' s' u g I e=>by cases(show u= .bool b from e);exact k b ρ' p' s' g I o
theorem aba(ha:JE X pg k a ma):JE X pg k (.UnaryOp .Not a pos) (Hr ma):=⟨λA I o=>UnaryOp_ (ha.h A I (GH o λb ρ' _ s' g I1 o=>not_of (Ud (o ρ' s' _ g I1 rfl))))⟩
theorem M4{op:BoolOp}(h:JE X pg k a ma):JE X pg k (.BoolOp op [a] pos) ma:=⟨λA I o=>BoolOp_one (h.h A I o)⟩
theorem KG{rest:List Tr}(ha:JE X pg k a ma)(hb:JE X pg k (.BoolOp .And (b::rest) pos) mb):JE X pg k (.BoolOp .And (a::b::rest) pos) (wK ma mb) :=
 ⟨λA I o=>BoolOp_and (ha.h A I (GH o λb ρ' _ s' g I1 o=>Ud (by
  cases b with
  | true=>exact hb.h A I1 (o.up g)
  | false=>exact o ρ' s' _ g I1 rfl)))⟩
theorem aaV{rest:List Tr}(ha:JE X pg k a ma)(hb:JE X pg k (.BoolOp .Or (b::rest) pos) mb):JE X pg k (.BoolOp .Or (a::b::rest) pos) (Pz ma mb) :=
 ⟨λA I o=>BoolOp_or (ha.h A I (GH o λb ρ' _ s' g I1 o=>Ud (by
  cases b with
  | true=>exact o ρ' s' _ g I1 rfl
  | false=>exact hb.h A I1 (o.up g))))⟩
theorem EL(hc:JT X pg k c mt)(ha:JE X pg k a ma)(hb:JE X pg k b mb):JE X pg k (.IfExp c a b pos) (vK mt ma mb) :=
 ⟨λA I o=>wpAny_IfExp (hc.h A I (o.go λx _ o _ _ g I1=>by
  cases x with
  | true=>exact ha.h A I1 (o.up g)
  | false=>exact hb.h A I1 (o.up g)))⟩
theorem GJ(ha:JT X pg k a mt):JW X pg k (.BoolOp .And [a] pos) mt:=⟨λA I o=>isTrue_and (He (ha.h A I o) λc _ q=>by
 cases c with
 | true=>exact isTrue_and_nil q
 | false=>exact q)⟩
theorem Kg(ha:JT X pg k a mt):JW X pg k (.BoolOp .Or [a] pos) mt:=⟨λA I o=>isTrue_or (He (ha.h A I o) λc _ q=>by
 cases c with
 | false=>exact isTrue_or_nil q
 | true=>exact q)⟩
theorem E9{rest:List Tr}(ha:JT X pg k a mt)(hb:JW X pg k (.BoolOp .And (b::rest) pos) mt'):JW X pg k (.BoolOp .And (a::b::rest) pos) (iq mt mt') :=
 ⟨λA I o=>isTrue_and (ha.h A I (o.go λc _ o ρ' s' g I1=>by
  cases c with
  | true=>exact hb.h A I1 (o.Rr g)
  | false=>exact o ρ' s' g I1))⟩
theorem IP{rest:List Tr}(ha:JT X pg k a mt)(hb:JW X pg k (.BoolOp .Or (b::rest) pos) mt'):JW X pg k (.BoolOp .Or (a::b::rest) pos) (Ii mt mt') :=
 ⟨λA I o=>isTrue_or (ha.h A I (o.go λc _ o ρ' s' g I1=>by
  cases c with
  | false=>exact hb.h A I1 (o.Rr g)
  | true=>exact o ρ' s' g I1))⟩
theorem JW.pt(h:JW X pg k e mt):JT X pg k e mt:=⟨λA I o=>h.h A I o⟩
theorem K7(ha:JT X pg k a mt):JT X pg k (.UnaryOp .Not a pos) (uW mt):=⟨λA I o=>isTrue_not (ha.h A I (o.go λ_ _ o ρ' s' g I1=>o ρ' s' g I1))⟩
theorem MU:JF X pg k [] aK:=⟨λ{_ _ ρ _ s _} _ I o=>wpAny_tests_nil (o ρ s .refl I)⟩
theorem abf(h:JT X pg k c mt):JF X pg k [c] mt:=⟨λA I o=>wpAny_tests_one (h.h A I o)⟩
theorem L6:JA X pg k [] aj:=⟨λ{_ _ _ ρ _ s _} _ I o=>Ur (o ρ s [] .refl I .nil)⟩
theorem GA(ha:JE X pg k e ma)(hr:JA X pg k es mr)(hs:autoParam (noStar e=true) aG):JA X pg k (e::es) (ae ma mr):=⟨λ{pos _ _ _ _ s _} A I o=>by
 rw[aL hs];show SD _ _ (spliced ((false,Wm e X.env)::Ez pos (VU es X.env))) _ _ s;exact TG (ha.h A I (o.go λ_ _ o _ _ _ g1 I1 r1=>hr.h A I1 (o.go λ_ _ o ρ2 s2 _ g2 I2 r2=>o ρ2 s2 _ (g1.trans g2) I2 (.cons (r1.up g2) r2))))⟩
section
variable{pins:List (Sl × Obj)}{v:ay}{ρ :Ps}{q:PH}{s:R8}{xs:List PV}{us:List RZ}{Q:RZ->R8->Prop}
theorem pJ(I:Inv X pins v ρ q s)(r:aB ρ s.heap xs us)(hl:us.length<=sizeLine)(o:Out X (RE X pins v ρ s.heap Q) (.ok (.ref q.length) (q++[.lst xs]))){t' n:Nat}:Q (.ref s.heap.objs.size) { s with heap:=s.heap.push { cls:= .type "list",data:= .seq us.toArray n},toks:=t'}:=by
 have k: ∀ b u,s.heap.get? b=fI u->(s.heap.push { cls:= .type "list",data:= .seq us.toArray n}).get? b=fI u:=λ_ _ e=>Sa _ e;have g:Gr ρ s.heap (ρ.add [(s.heap.objs.size,fI s.heap.objs.size)]) _:=(Gr.kept k).more _;refine o _ _ _ g (I.new rfl k (Si _) (Si _) ⟨rfl,us,r.up g,hl,n,Sv _ rfl⟩) ⟨(s.heap.objs.size,fI s.heap.objs.size),I.sim.end,rfl⟩
theorem km(I:Inv X pins v ρ q s)(r:aB ρ s.heap xs us)(hl:us.length<=sizeLine)(o:Out X (RE X pins v ρ s.heap Q) (.ok (.tup xs) q)){t' n:Nat}:Q (.ref s.heap.objs.size) { s with heap:=s.heap.push { cls:= .type "tuple",data:= .seq us.toArray n},toks:=t'}:=by
 have k: ∀ b u,s.heap.get? b=fI u->(s.heap.push { cls:= .type "tuple",data:= .seq us.toArray n}).get? b=fI u:=λ_ _ e=>Sa _ e;exact o _ _ _ (Gr.kept k) (I.kept k) ⟨_,us,rfl,r.up (Gr.kept k),⟨hl,I.sim.P6 (Si _)⟩,_,Sv _ rfl,rfl,n,rfl,rfl⟩
end
theorem Kc{x1}(h:JA X pg k es mr):JE X pg k (.Tuple es x1 pos) (aw mr):=⟨λA I o=>wpAny_Tuple_spliced (h.h A I (o.go λ_ _ o _ _ _ g I1 r=>let ⟨hl,o⟩:=Out.jD o;⟨r.len ▸ hl,km I1 r (r.len ▸ hl) (Out.up (r:= .ok _ _) o g)⟩))⟩
theorem Kr(h:JA X pg k es mr):JE X pg k (.List es pos) (bA mr):=⟨λA I o=>wpAny_List_spliced (h.h A I (o.go λ_ _ o _ _ _ g I1 r=>let ⟨hl,o⟩:=Out.jD o;⟨r.len ▸ hl,pJ I1 r (r.len ▸ hl) (Out.up (r:= .ok _ _) o g)⟩))⟩
theorem Out.RJ{R: α ->PH->Prop}{r:RV α}(o:Out X R r):r≠ .no:=λe=>by rw[e] at o;exact o
theorem FU{f:String}{d:Df}(hf:pg.fns f=fI d)(hg:Gl X (SO f))(ha:JA X pg k (e::es) mr)(hdb:autoParam ((SO f == ("__debug__" :Str))=false) cT)(he:autoParam (noStar e=true) aG)(hpl:autoParam (es.all noStar=true) aG) :
  JE X pg k (.Call (.Name (SO f) p) (e::es) [] pos) (ai f mr):=⟨λA I o=>by
 obtain⟨fa,fd,F,hm,kp,bd,len⟩:=A.defs f d hf;refine TU (mU I hg hm ?_ hdb);exact PySem.W.callWith_K (h₀ :=X.base) I.ok.mod.Fn kp (ha.h A I (o.go λxs q o _ _ _ g I1 r=>⟨I1.B3,MM F A.room bd (len xs q o.RJ) I1 r (o.up g)⟩)) (aL he) (nA hpl)⟩
theorem zi{id:String}{f:List PV->PH->RV PV}(hc:dz X pg k->OL X (λus=>call (.builtin id) us) f)(hg:Gl X x)(hb:x∈iO)(hv:Wj x=fI (.builtin id))(ha:JA X pg k (e::es) mr)
  (hn:autoParam (x≠ "__name__") cT) (hdb:autoParam ((x == ("__debug__" :Str))=false) cT) (he:autoParam (noStar e=true) aG) (hpl:autoParam (es.all noStar=true) aG):JE X pg k (.Call (.Name x p) (e::es) [] pos) (eB f mr) :=
 ⟨λA I o=>TU (gO I hg (A.blt x hb) hv (PyProof.Rows.callWith_builtin1 (ha.h A I (o.go λ_ _ o _ _ _ g I1 r=>hc A I1 r (o.up g))) (aL he) (nA hpl)) hn hdb)⟩
theorem HC{T:String}{f:List PV->PH->RV PV}(hc:dz X pg k->OL X (λus=>call (.type T) us) f)(hg:Gl X x)(hb:x∈iO)(hv:Wj x=fI (.type T))(ha:JA X pg k (e::es) mr)
  (hn:autoParam (x≠ "__name__") cT) (hdb:autoParam ((x == ("__debug__" :Str))=false) cT) (he:autoParam (noStar e=true) aG) (hpl:autoParam (es.all noStar=true) aG):JE X pg k (.Call (.Name x p) (e::es) [] pos) (eB f mr) :=
 ⟨λA I o=>TU (gO I hg (A.blt x hb) hv (Th (ha.h A I (o.go λ_ _ o _ _ _ g I1 r=>hc A I1 r (o.up g))) (aL he) (nA hpl)) hn hdb)⟩
theorem La{name:Str}{id T:String}{f:PV->List PV->PH->RV PV}{ty:PV->PH->Bool}(pa:PlainAttrs T)(slot:Slot T name id)(hty:typeOf (.builtin id)=pure (.type "method_descriptor"))(hm:dz X pg k->OM X T id f ty)
  (ho:JE X pg k d md) (ha:JA X pg k [e] mr) (hbase:autoParam (X3 d name X.env (Wm d X.env)=Wm d X.env) aG) (hline:autoParam ((apos.endLine == cpos.line)=true) aG) (hs:autoParam (noStar e=true) aG) :
  JE X pg k (.Call (.Attribute d name apos) [e] [] cpos) (eM f ty md mr):=⟨λA I o=>by
 refine Wn hbase (by rw[aL hs];rfl) hline rfl (ho.h A I (o.go λx _ o _ s1 u g1 I1 r1=>?_));obtain⟨ht,o⟩:=Out.ite o;obtain⟨h1,h2⟩:=(hm A).ty I1 r1 ht;refine⟨T,id,pa,slot,hty,h1,h2,?_⟩;have hA:=ha.h A (pos:=cpos) I1 (o.go λ_ _ o _ _ _ g2 I2 r2=>(hm A).h I2 (r1.up g2) r2 (o.up (g1.trans g2)));rw[aL hs] at hA ⊢;exact Vm rfl (VF hA)⟩
theorem CY{op op':CmpOp}{f g:PV->PV->PH->RV PV}(ho:dz X pg k->O2 X (UA op) f)(ho':dz X pg k->O2 X (UA op') g)(ha:JE X pg k a ma)(hb:JE X pg k b mb)(hc:JE X pg k c mc)
  (hm:autoParam (lastMarks [op,op'] [b,c]=false) OJ):JE X pg k (.Compare a [op,op'] [b,c] pos) (uE f g ma mb mc):=⟨λA I o=>by
 refine Compare_chain (ha.h A I (o.go λ_ _ o _ _ _ g1 I1 r1=>chain_link (hb.h A I1 (o.go λ_ _ o _ _ _ g2 I2 r2=>ho A I2 (r1.up g2) r2 (GH o λt _ _ _ g3 I3 o=>Ud ?_))))) hm;cases t with
 | false=>exact ite_ff (o _ _ _ ((g1.trans g2).trans g3) I3 rfl)
 | true=>exact ite_tt (chain_last (hc.h A I3 (o.go λ_ _ o _ _ _ g4 I4 r4=>ho' A I4 (r2.up (g3.trans g4)) r4 (o.up (((g1.trans g2).trans g3).trans g4)))))⟩
end
end _P
end
section
open PySem PySem.W PyProof.Rows
namespace _L
open PySem PySem.Spec PyProof.Rows
theorem xB{M : Model}{A : TP}{E : RZ -> R8 -> Prop}{s : R8}{tg : Tr}{it : Sl}{u : RZ}{o : Obj}{n : String}{vs : Array RZ}{Q : Unit -> R8 -> Prop}(ho : s.heap.get? it = fI o)(hc : o.cls = .type n)(hd : o.data = .fields vs)
    (hn : ["enumerate", "zip", "dict_itemiterator", "dict_reverseitemiterator", "odict_iterator", "itertools.zip_longest", "itertools.pairwise"].contains n = false) (hQ : Q () s) : SD M A (WX tg (.ref it) u) Q E s := by
  cases tg <;> first
    | exact Sg hQ
    | (cases u <;> first
        | exact Sg hQ
        | (refine mh (VG ho ?_)
           rw [hc, hd]
           show SD M A (if (["enumerate", "zip", "dict_itemiterator", "dict_reverseitemiterator", "odict_iterator", "itertools.zip_longest", "itertools.pairwise"].contains n && vs[0]? == fI _) = true then _ else _) Q E s
           rw [if_neg (by intro h; rw [hn] at h; cases h)]
           exact Sg hQ))
noncomputable def oE(fp:List Sl)(h:SM):=fp.filterMap λb=>(h.get? b).map λo=>(b,o)
theorem ly(hb:b∈fp)(e:h.get? b=fI o):(b,o)∈oE fp h:=Xk.mpr ⟨b,hb,by rw[e];rfl⟩
theorem A9(hp:p∈oE fp h):p.1∈fp/\h.get? p.1=fI p.2:=by
 obtain⟨b,hb,e⟩:=Xk.mp hp;cases q:h.get? b with
 | none=>simp_all
 | some o =>
  rw[q] at e
  have e':=SY e
  subst e'
  exact⟨hb,q⟩
end _L
namespace _P
open PySem PySem.Spec PyProof.Rows _L
theorem Inv.quiet{X:Cx}{pins:List (Sl × Obj)}{v:ay}{ρ :Ps}{p:PH}{s:R8}(I:Inv X pins v ρ p s):interactive X.env=false:=by unfold interactive;rw[I.ok.kind];rfl
section
variable{X:Cx}{pg:Tb}{k:Nat}{a b c d e o i:Tr}{es:List Tr}{ma mb mc md mo mi:ME}{mr:MA}{mt mt':MT}{ms ms' mu:MS}{pos p pos' apos cpos spos:Pos}{x y:Str}{st:XX}{body rest:List XX}{g:MG}{gs:List PV->ay->PH->RV ay}{tg iter:Tr}
theorem HM:BS X pg k [] cD:=⟨λ{_ _ ρ _ s _} _ I o=>Vv (o ρ s .refl I)⟩
theorem Hv(h:JS X pg k st ms):BS X pg k [st] ms:=⟨λA I o=>wpAny_execs_cons (He (h.h A I o) λf s1 q=>by
 cases f with
 | next=>exact Vv q
 | _=>exact q)⟩
theorem Ed(h1:JS X pg k st ms)(h2:BS X pg k rest mu):BS X pg k (st::rest) (ag ms mu):=⟨λA I o=>wpAny_execs_cons (h1.h A I (o.go λf q o=>by
 cases f with
 | nx e=>exact fun ρ' s' g I1=>h2.h A I1 (o.O4 g)
 | _=>exact o))⟩
theorem Iw(ha:JE X pg k e ma)(hs:autoParam (ZI e ox pos.line X.env=pure false) aG):JS X pg k (.Expr e pos) (cf ma):=⟨λA I o=>wpAny_Expr_any (ha.h A I (o.go λ_ _ o ρ' s' _ g I1 _=>o ρ' s' g I1)) I.quiet hs⟩
theorem Nj(ha:JE X pg k e ma):JS X pg k (.Return (fI e) pos) (aA ma):=⟨λA I o=>wpAny_Return_some (ha.h A I (o.go λ_ _ o ρ' s' u g I1 r=>o _ ρ' s' u g I1 r))⟩
theorem Ox{A B:List XX}(hc:JT X pg k c mt)(ha:BS X pg k A ms)(hb:BS X pg k B mu):JS X pg k (.If c A B pos) (bS mt ms mu):=⟨λZ I o=>wpAny_If (hc.h Z I (o.go λx _ o _ _ g I1=>by
 cases x with
 | true=>exact ha.h Z I1 (o.O4 g)
 | false=>exact hb.h Z I1 (o.O4 g)))⟩
theorem EY:JS X pg k st kb:=⟨λ_ _ o=>o.elim⟩
theorem Iy{i:Nat}(hN:X.N.Nodup)(hi:X.N[i]?=fI x)(hx:Loc X.env.scope x)(hf:autoParam (X.fn x=true\/X.env.scope.names.lookup x=fI .local) kX):JG X pg k (.Name x pos) (gN i) :=
 ⟨λ{_ _ ρ _ _ _ _ _} _ I r o=>wpAny_assign_Name (wm I hN hi hx r (λs' J g=>o ρ s' g J) hf)⟩
theorem Iq:OY X pg k [] bN:=⟨λ{_ _ ρ _ s _ xs us} _ I r o=>by
 cases xs with
 | nil=>cases(show us=[] from r);exact assignInOrder_nil (o ρ s .refl I)
 | cons=>exact o.elim⟩
theorem ET(h1:JG X pg k e g)(h2:OY X pg k es gs)(hs:autoParam ((WE (e::es) X.env).map (·.2)=XZ e X.env::(WE es X.env).map (·.2)) aG):OY X pg k (e::es) (ax g gs):=⟨λ{_ _ ρ _ s _ xs us} A I r o=>by
 cases xs with
 | nil=>exact o.elim
 | cons x t =>
  obtain⟨u,us,rfl,r1,r2⟩:=r
  rw[hs]
  exact assignInOrder_cons (h1.h A I r1 (Out.go o λe1 _ o ρ1 s1 g1 I1=>h2.h A I1 (r2.up g1) (o.Rf g1)))⟩
theorem MB{j n:Nat}(h:OY X pg k es gs)(hn:autoParam ((WE es X.env).length=n) aG)(hst:autoParam ((WE es X.env).findIdx? (·.1)=ox) aG):JG X pg k (.Tuple es j pos) (gT n gs):=⟨λA I r o=>by
 unfold gT at o;split at o
 . rename_i xs ex;obtain⟨hl,o⟩:=Out.ite o;obtain⟨a,us,rfl,rr,z,t⟩:=rel.seq ex r;refine assign_Tuple_tuple (I.ok.hd A.calm) t (by rw[hn,<- hl,rr.len];rfl) hst λh' hx=>?_;have kp:=λb o e=>hx b o (SW (Su e)) e;exact h.h A (I.kept kp) (rr.up (Gr.kept kp)) (o.Rf (Gr.kept kp))
 . exact o.elim⟩
theorem KS{j:Nat}(hN:X.N.Nodup)(hi:X.N[j]?=fI x)(hx:Loc X.env.scope x)(he:JE X pg k e ma)(hs:autoParam (ZI e (fI (.Name x pos')) pos.line X.env=pure false) aG)(hf:autoParam (X.fn x=true\/X.env.scope.names.lookup x=fI .local) kX) :
  JS X pg k (.Assign [.Name x pos'] e pos) (ak ma (gN j)):=⟨λA I o=>wpAny_Assign_Name (he.h A I (o.go λ_ _ o ρ1 _ _ g I1 r=>wm I1 hN hi hx r (λs2 I2 g2=>o ρ1 s2 (g.trans g2) I2) hf)) hs⟩
theorem Mj(he:JE X pg k e ma)(hg:JG X pg k tg g)(hs:autoParam (swapsWithSole [tg] e pos.line X.env=pure false) aG)(hw:autoParam (swappedStores [tg] e X.env=pure ox) aG)(h1:autoParam ((WE [tg] X.env).map (·.2)=[XZ tg X.env]) aG) :
  JS X pg k (.Assign [tg] e pos) (ak ma g):=⟨λA I o=>ZL (he.h A I (o.go λ_ _ o _ _ _ g1 I1 r=>by
 rw[h1];exact hg.h A I1 r (o.go λ_ _ o ρ2 s2 g2 I2=>o ρ2 s2 (g1.trans g2) I2))) hs hw⟩
def RU(X:Cx)(pins:List (Sl × Obj))(v:ay)(ρ :Ps)(h:SM)(Q:Unit->R8->Prop):Unit->PH->Prop:=λ_ p=> ∀ ρ' s',Gr ρ h ρ' s'.heap->Inv X pins v ρ' p s'->Q () s'
def O3(X:Cx)(f:PV->PV->PV->PH->RV Unit):Prop:= ∀{pins v ρ p s Q x y z ou iu u},Inv X pins v ρ p s->rel ρ s.heap x ou->rel ρ s.heap y iu->rel ρ s.heap z u->Out X (RU X pins v ρ s.heap Q) (f x y z p)->SD (SN X.prog X.w) X.A (setItem ou iu u) Q X.xe s
theorem Kq{f:PV->PV->PV->PH->RV Unit}(hp:dz X pg k->O3 X f)
  (ho:JE X pg k o mo) (hi:JE X pg k i mi) (hv:JE X pg k e ma) (hs:autoParam (swapsWithSole [.Subscript o i pos'] e pos.line X.env=pure false) aG) (hw:autoParam (swappedStores [.Subscript o i pos'] e X.env=pure ox) aG) (h1:autoParam ((WE [.Subscript o i pos'] X.env).map (·.2)=[XZ (.Subscript o i pos') X.env]) aG)
  (ha: ∀ v,XZ (.Subscript o i pos') X.env v=(do
   let ov <- LJ [v] (Wm o X.env)
   let iv <- LJ [v,ov] (Wm i X.env)
   standAt pos'
   LJ [v,ov,iv] (setItem ov iv v)
   release [v,ov,iv] []):=by intro _;rfl):JS X pg k (.Assign [.Subscript o i pos'] e pos) (gW f mo mi ma):=⟨λA I o=>ZL (hv.h A I (o.go λ_ _ o _ _ _ g1 I1 r1=>by
 rw[h1];show SD _ _ (XZ (.Subscript _ _ _) _ _) _ _ _;rw[ha];exact mh (Tv (ho.h A I1 (o.go λ_ _ o _ _ _ g2 I2 r2=>mh (Tv (hi.h A I2 (o.go λ_ _ o _ _ _ g3 I3 r3=>mh (ZU (mh (Tv
  (hp A I3 (r2.up g3) r3 (r1.up (g2.trans g3)) (o.go λ_ _ o ρ4 s4 g4 I4=>wpAny_release (o ρ4 s4 (((g1.trans g2).trans g3).trans g4) I4)))))))))))))) hs hw⟩
theorem CM(hc:JT X pg k c mt)(hb:BS X pg k body ms)(hp:autoParam (PassesOwn (SN X.prog X.w) X.A X.env X.xe) D3):JS X pg k (.While c body [] pos) (u6 mt ms):=⟨λ{pins v ρ q s Q} A I o=>by
 refine wpAny_While (codeAny_whileLoop (λn s'=> ∃ v' ρ' q',Gr ρ s.heap ρ' s'.heap∧Inv X pins v' ρ' q' s'∧Out X (RS X pins ρ s.heap Q) (cR (mt (run pg k)) (ms (run pg k)) n v' q')) ?_ 100000 ⟨v, ρ,q,.refl,I,o⟩);rintro n s1 ⟨v1, ρ1,q1,g1,I1,o1⟩;cases n with
 | zero=>exact o1.elim
 | succ n =>
  refine TV hp (hc.h A I1 (Out.go o1 λt _ o ρ2 s2 g2 I2=>?_))
  have G:=g1.trans g2
  cases t with
  | false=>exact Vv (o ρ2 s2 G I2)
  | true =>
   refine TV hp (hb.h A I2 (Out.go (show Out X _ (RV.bind _ _) from o) λf q3 o=>?_))
   cases f with
   | nx e=>exact fun ρ3 s3 g3 I3=>⟨n,UN _,e, ρ3,q3,G.trans g3,I3,o⟩
   | ct e=>exact fun ρ3 s3 g3 I3=>⟨n,UN _,e, ρ3,q3,G.trans g3,I3,o⟩
   | bk e=>exact fun ρ3 s3 g3 I3=>o ρ3 s3 (G.trans g3) I3
   | rt w=>exact λe ρ3 s3 u g3 I3 r=>o e ρ3 s3 u (G.trans g3) I3 r⟩
end
def jC(X:Cx)(pins:List (Sl × Obj))(ρ :Ps)(b:Sl):Prop:= ¬ dF ρ b/\b ∉ X.fs/\rC X pins [b]
theorem Inv.DS{X:Cx}{pins:List (Sl × Obj)}{v:ay}{ρ ρ':Ps}{p:PH}{s:R8}{b:Sl}(I:Inv X pins v ρ p s)(hb:s.heap.objs.size<=b)(hn: ¬ dF ρ' b):jC X pins ρ' b :=
 ⟨hn,I.F5 hb,λc hc=>by
  rw[Sf.mp hc];exact⟨.inr (Sx I.sz hb),TB (SK I.lt hb),λx c e z=>let ⟨_,q⟩:=I.cell x c e;absurd (SK q.lt (z ▸ hb)) (TF _),λq hq z=>absurd (SK (Su (I.pin q hq).1) (z ▸ hb)) (TF _)⟩⟩
theorem Inv.FC{X:Cx}{pins:List (Sl × Obj)}{v:ay}{ρ :Ps}{p:PH}{s:R8}(I:Inv X pins v ρ p s): ∀ b∈[s.heap.objs.size],jC X pins ρ b:=λb hb=>by
 rw[Sf.mp hb];exact I.DS (Si _) (I.sim.fresh (Si _))
structure Turn(P:SP)(w:Tp)(K:Sy)(tg:Tr)(IT:kC)(ρ0:Ps)(h0:SM)(fp:List Sl)(it:Sl)(tn:Nat->SM->Prop):Prop where
 mem:it∈fp
 obj: ∀ i h,tn i h-> ∀ b∈fp,∃ o,h.get? b=fI o/\ ∀ v,o.data≠ .cell v
 keep: ∀ i h h',tn i h->(∀ b∈fp,∀ o,h.get? b=fI o->h'.get? b=fI o)->tn i h'
 item: ∀{X:Cx}{pins:List (Sl × Obj)}{v:ay}{ρ :Ps}{p:PH}{s:R8}{E:RZ->R8->Prop}{Q:RZ->R8->Prop}{x:PV}{i:Nat},X.prog=P->X.w=w->X.K=K->X.calm=true->Inv X pins v ρ p s->Gr ρ0 h0 ρ s.heap->(∀ b∈fp,jC X pins ρ b)->tn i s.heap->IT.ir p=true->IT.items[i]?=fI x ->
  (∀ u s2,Gr ρ s.heap ρ s2.heap->Inv X pins v ρ p s2->rel ρ s2.heap x u->tn (i+1) s2.heap->Q u s2) ->
  SD (SN P w) X.A (X4 (.ref it)) (λr s1=> ∃ u,r=fI u/\SD (SN P w) X.A (WX tg (.ref it) u) (λ_ s2=>Q u s2) E s1) E s
 done: ∀{X:Cx}{pins:List (Sl × Obj)}{v:ay}{ρ :Ps}{p:PH}{s:R8}{E:RZ->R8->Prop}{Q:R8->Prop}{i:Nat},X.prog=P->X.w=w->X.K=K->X.calm=true->Inv X pins v ρ p s->Gr ρ0 h0 ρ s.heap->(∀ b∈fp,jC X pins ρ b)->tn i s.heap->IT.ir p=true->i=IT.items.length ->
  (∀ s2,Gr ρ s.heap ρ s2.heap->Inv X pins v ρ p s2->Q s2)->SD (SN P w) X.A (X4 (.ref it)) (λr s1=>r=ox/\Q s1) E s
 self: ∀(A:TP)(i:Nat)(s:R8)(Q:RZ->R8->Prop)(E:RZ->R8->Prop),tn i s.heap->Q (.ref it) s->SD (SN P w) A (HS (.ref it)) Q E s
def RI(X:Cx)(pins:List (Sl × Obj))(v:ay)(ρ :Ps)(h:SM)(tg:Tr)(Q:RZ->R8->Prop):kC->PH->Prop:=λIT p=> ∀ ρ' s' it fp tn,Gr ρ h ρ' s'.heap->Inv X pins v ρ' p s'->Turn X.prog X.w X.K tg IT ρ' s'.heap fp it tn->tn 0 s'.heap->(∀ b∈fp,jC X pins ρ' b)->Q (.ref it) s'
structure JI(X:Cx)(pg:Tb)(k:Nat)(tg e:Tr)(m:MI):Prop where
 h: ∀{pins v ρ p s Q},dz X pg k->Inv X pins v ρ p s->Out X (RI X pins v ρ s.heap tg Q) (m (run pg k) v p)->SD (SN X.prog X.w) X.A (Wm e X.env) (λv s1=>SD (SN X.prog X.w) X.A (HS v) Q X.xe s1) X.xe s
theorem Inv.pinned{X:Cx}{pins:List (Sl × Obj)}{v:ay}{ρ :Ps}{p:PH}{s:R8}{fp:List Sl}(I:Inv X pins v ρ p s)(hf: ∀ b∈fp,jC X pins ρ b)(ho: ∀ b∈fp,∃ o,s.heap.get? b=fI o/\ ∀ v,o.data≠ .cell v):Inv X (pins++oE fp s.heap) v ρ p s :=
 I.kl λq hq=>(Ti.mp hq).elim (λz=>I.pin q (To _ z)) λz=>by
  obtain⟨hb,e⟩:=A9 z;obtain⟨f0,f1,f2⟩:=hf q.1 hb;obtain⟨o,e',d⟩:=ho q.1 hb;rw[e] at e';cases e';exact⟨e,f0,(f2 _ (Sf.mpr rfl)).2.1,f1,d⟩
theorem Inv.iI{X:Cx}{pins pl:List (Sl × Obj)}{v:ay}{ρ :Ps}{p:PH}{s:R8}(I:Inv X (pins++pl) v ρ p s):Inv X pins v ρ p s:=I.kl λq hq=>I.pin q (To _ (Tq _ hq))
section
variable{X:Cx}{pg:Tb}{k:Nat}{tg iter:Tr}{body:List XX}{g:MG}{ms:MS}{mI:MI}{pos:Pos}
theorem Kf(hi:JI X pg k tg iter mI)(hg:JG X pg k tg g)(hb:BS X pg k body ms)(hp:autoParam (PassesOwn (SN X.prog X.w) X.A X.env X.xe) D3)(hs:autoParam (∀ x,Us iter X.env x=pure x) aG):JS X pg k (.For tg iter body [] pos) (jv mI g ms):=⟨λ{pins v ρ q s Q} A I o=>by
 refine wpAny_For (hi.h A I (o.go λIT q2 o ρ2 s2 it fp tn g2 I2 T st2 f2=>?_)) hs;have stat: ∀{ρ':Ps},(∀ b∈fp,¬ dF ρ' b)-> ∀ b∈fp,jC X pins ρ' b:=λhn b hb=>⟨hn b hb,(f2 b hb).2⟩
 let step:PV->ay->PH->RV Fl:=λx e h=>(g x e h).bind λe1 h1=>ms (run pg k) e1 h1
 refine ZM (λn s'=> ∃ i v' ρ' q',Gr ρ2 s2.heap ρ' s'.heap∧Inv X pins v' ρ' q' s'∧tn i s'.heap∧(∀ b∈fp,¬ dF ρ' b)∧i<=IT.items.length∧n=IT.items.length - i∧Out X (RS X pins ρ2 s2.heap Q) (bK IT step (IT.items.drop i) v' q')) ?_ IT.items.length
  ⟨0,v, ρ2,q2,.refl,I2,st2,λb hb=>(f2 b hb).1,SX _,rfl,Out.O4 o g2⟩
 rintro n s3 ⟨i,v3, ρ3,q3,g3,I3,lB,fr3,hi,hn,o3⟩;rcases TJ i IT.items.length with hlt | hge
 . rw [UY hlt,bK] at o3;obtain ⟨hf,o3⟩:=Out.ite o3
   refine' TV hp (He (T.item rfl rfl rfl A.calm I3 g3 (stat fr3) lB hf (R6 hlt) ?k) ?g)
   case g=>intro r s4 z;obtain⟨u,hr,h4⟩:=z;subst hr;exact TV hp h4
   intro u s5 g5 I5 r5 st5;have I5':=I5.pinned (stat fr3) (T.obj _ _ st5);rw[bind_assoc] at o3;refine TV hp (hg.h A I5' r5 (o3.go λe6 q6 o6 ρ6 s6 g6 I6=>TV hp (hb.h A I6 (o6.go λf q7 o7=>?_))));have G:=(g3.trans g5).trans g6;have again: ∀{v7 ρ7 s7},Gr ρ6 s6.heap ρ7 s7.heap->Inv X (pins++oE fp s5.heap) v7 ρ7 q7 s7->Out X (RS X pins ρ2 s2.heap Q) (bK IT step (IT.items.drop (i+1)) v7 q7)-> ∃ m,m < n∧ ∃ i v' ρ' q',Gr ρ2 s2.heap ρ' s7.heap∧Inv X pins v' ρ' q' s7∧tn i s7.heap∧(∀ b∈fp,¬ dF ρ' b)∧i<=IT.items.length∧m=IT.items.length - i∧Out X (RS X pins ρ2 s2.heap Q) (bK IT step (IT.items.drop i) v' q'):=λ{v7 ρ7 s7} g7 I7 o7=>by
    have pn: ∀ b∈fp,∀ o,s5.heap.get? b=fI o->s7.heap.get? b=fI o∧ ¬ dF ρ7 b:=λb hb o e=>let ⟨x,y,_⟩:=I7.pin (b,o) (To _ (To _ (ly hb e)));⟨x,y⟩
    exact ⟨IT.items.length - (i+1),by omega,i+1,v7, ρ7,q7,G.trans g7,I7.iI,T.keep _ _ _ st5 λb hb o e=>(pn b hb o e).1,λb hb=>let ⟨o,e,_⟩:=T.obj _ _ st5 b hb;(pn b hb o e).2,hlt,rfl,o7⟩
   cases f with
   | nx e=>exact fun ρ7 s7 g7 I7=>again g7 I7 o7
   | ct e=>exact fun ρ7 s7 g7 I7=>again g7 I7 o7
   | bk e=>exact fun ρ7 s7 g7 I7=>o7 ρ7 s7 (G.trans g7) I7.iI
   | rt w=>exact λe ρ7 s7 u g7 I7 r=>o7 e ρ7 s7 u (G.trans g7) I7.iI r
 . have e:i=IT.items.length:=V3 hi hge;rw[UG hge,bK] at o3;obtain⟨hf,o3⟩:=Out.ite o3;exact TV hp (He (T.done (Q:=λs=>Q .next s) rfl rfl rfl A.calm I3 g3 (stat fr3) lB hf e λs5 g5 I5=>o3 ρ3 s5 (g3.trans g5) I5) λr s4 z=>by obtain⟨hr,h4⟩:=z;subst hr;exact Vv h4)⟩
end
section
variable {P:SP} {w:Tp} {base:SM} {ρ :Ps} {p:PH} {h:SM} {n:Nat} {xs:List PV} {u:RZ} {x:PV}
theorem hX.lst(s:hX P w base ρ p h)(kx: ∀ b o,base.get? b=fI o->h.get? b=fI o)(e:br p n=fI xs)(r:rel ρ h (.ref n) u): ∃ a t us, ρ.l[n]?=fI (a,t)∧u= .ref a∧aB ρ h xs us∧us.length<=sizeLine∧PlainL h a us.toArray:=by
 obtain ⟨⟨a,b⟩,e1,rfl⟩:=r;unfold br at e;split at e
 . rename_i q;cases e;obtain⟨e2,us,r,z,n,t⟩:=s.ob n _ _ q e1;exact⟨a,b,us,e1,rfl,r,z,_,n,t,rfl,rfl,rfl⟩
 . rename_i q;cases e;obtain⟨e2,us,r,z,t⟩:=s.ob n _ _ q e1;exact⟨a,b,us,e1,rfl,r,z,t.keeps kx⟩
 . cases e
theorem xq{IT:kC}(hg:IT.gd=fI n)(hf:IT.ir p=true):br p n=fI IT.items:=by
 unfold kC.ir at hf;rw[hg] at hf;unfold br;rcases of_decide_eq_true hf with q | q<;>rw[q]
end
theorem nu{P:SM->Nat->Prop}{it:Sl}(k: ∀ i h,P h i-> ∃ o,h.get? it=fI o/\ ∀ v,o.data≠ .cell v): ∀ i h,P h i-> ∀ b∈[it],∃ o,h.get? b=fI o/\ ∀ v,o.data≠ .cell v:=λi h st b hb=>by rw[Sf.mp hb];exact k i h st
theorem Inv.oX{X:Cx}{pins:List (Sl × Obj)}{v:ay}{ρ :Ps}{p:PH}{s:R8}{h':SM}{it:Sl}{o:Obj}{t':Nat}(I:Inv X pins v ρ p s)(hf: ∀ b∈[it],jC X pins ρ b)(ho:s.heap.get? it=fI o)(hd: ∀ us n,o.data≠ .seq us n)(k: ∀ b u,b≠it->s.heap.get? b=fI u->h'.get? b=fI u) :
  Gr ρ s.heap ρ h'/\Inv X pins v ρ p { s with heap:=h',toks:=t'}:=by
 obtain⟨f0,_,f2⟩:=hf it (Sf.mpr rfl);have g:Gr ρ s.heap ρ h':=(.of λc oc z _ ⟨us,n,d⟩=>⟨oc.slots,k _ _ (λy=>by subst y;rw[ho] at z;cases z;exact hd _ _ d) z⟩)
 exact⟨g,I.turned g k f0 f2⟩
section
variable{P:SP}{w:Tp}{K:Sy}{tg:Tr}{IT:kC}{ρ0:Ps}{h0:SM}
theorem Ck{n:Nat}{a it:Sl}{t:Option Sl}(hg:IT.gd=fI n)(ha: ρ0.l[n]?=fI (a,t)):Turn P w K tg IT ρ0 h0 [it] it (λi h=>h.IsListIter it a i) where
 mem:=Sf.mpr rfl
 obj:=nu λi h ⟨o,e,c,d⟩=>⟨o,e,λv z=>by rw[d] at z;cases z⟩
 keep:=λi h h' st k=>st.at λo e=>k it (Sf.mpr rfl) o e
 item:=by
  intro X pins v ρ p s E Q x i hP hw hK hc I g hf st fn hx hQ;subst hP hw hK;obtain⟨b,_,us,e1,e2,r,hz,pl⟩:=I.sim.lst I.bk (xq hg fn) ⟨(a,t),g.pre _ _ ha,rfl⟩;cases e2;obtain⟨u,hu,ru⟩:=r.get hx;obtain⟨o,e,c,d⟩:=id st;refine wpAny_pyNext_list_item st pl.isList (x:=u) (by rw[Ug];exact hu) λh' st' sb=>?_;obtain⟨o',e',c',d'⟩:=id st';have T:=I.oX (t':=s.toks) hf e (λus n z=>by rw[d] at z;cases z) (λb o hb e=>(sb.2 b hb).trans e);exact⟨u,rfl,xB (s:={ s with heap:=h'}) e' c' d' (by decide) (hQ u _ T.1 T.2 (ru.up T.1) st')⟩
 done:=by
  intro X pins v ρ p s E Q i hP hw hK hc I g hf st fn hi hQ;subst hP hw hK;obtain⟨b,_,us,e1,e2,r,hz,pl⟩:=I.sim.lst I.bk (xq hg fn) ⟨(a,t),g.pre _ _ ha,rfl⟩;cases e2;obtain⟨o,e,c,d⟩:=id st;exact wpAny_pyNext_list_end (I.ok.hd hc) st pl.isList (by rw[hi,r.len,Ug];exact Tn (Si _)) λh' eb=>by
   have T:=I.oX (t':=s.toks) hf e (λus n z=>by rw[d] at z;cases z) (λb o hb e=>eb b o hb e);exact⟨rfl,hQ _ T.1 T.2⟩
 self:=λ_ _ _ _ _ st h=>wpAny_pyIter_listiter st h
theorem zT{a it:Sl}{us:List RZ}(r0:aB ρ0 h0 IT.items us)(np:a ∉ ρ0.pv)(t0:Wl h0 a us.toArray):Turn P w K tg IT ρ0 h0 [it] it (λi h=>h.IsTupleIter it a i) where
 mem:=Sf.mpr rfl
 obj:=nu λi h ⟨o,e,c,d⟩=>⟨o,e,λv z=>by rw[d] at z;cases z⟩
 keep:=λi h h' st k=>st.at λo e=>k it (Sf.mpr rfl) o e
 item:=by
  intro X pins v ρ p s E Q x i hP hw hK hc I g hf st fn hx hQ;subst hP hw hK;obtain⟨u,hu,ru⟩:=(r0.up g).get hx;obtain⟨o,e,c,d⟩:=id st;refine wpAny_pyNext_tuple_item st (show s.heap.IsTuple a us.toArray from(g.isTup np t0).2) (x:=u) (by rw[Ug];exact hu) λh' st' sb=>?_;obtain⟨o',e',c',d'⟩:=id st';have T:=I.oX (t':=s.toks) hf e (λus n z=>by rw[d] at z;cases z) (λb o hb e=>(sb.2 b hb).trans e);exact⟨u,rfl,xB (s:={ s with heap:=h'}) e' c' d' (by decide) (hQ u _ T.1 T.2 (ru.up T.1) st')⟩
 done:=by
  intro X pins v ρ p s E Q i hP hw hK hc I g hf st fn hi hQ;subst hP hw hK;obtain⟨o,e,c,d⟩:=id st;exact wpAny_pyNext_tuple_end (I.ok.hd hc) st (show s.heap.IsTuple a us.toArray from(g.isTup np t0).2) (by rw[hi,r0.len,Ug];exact Tn (Si _)) λh' eb=>by
   have T:=I.oX (t':=s.toks) hf e (λus n z=>by rw [d] at z;cases z) (λb o hb e=>eb b o hb e);exact ⟨rfl,hQ _ T.1 T.2⟩
 self:=λ_ _ _ _ _ st h=>wpAny_pyIter_tupleiter st h
theorem xE{ty:String}{x:Str}{t:Tok}{it:Sl}(hi:IT.items=x.cps.toList.map λc=> .str ⟨#[c]⟩)(hty:["enumerate", "zip", "dict_itemiterator", "dict_reverseitemiterator", "odict_iterator", "itertools.zip_longest", "itertools.pairwise"].contains ty=false)
  (W: ∀ A:TP,A.handled=ox->Walks P w A it [it] [it] x.cps.size (SignAt x) (λi h=>h.IsStrIter it ty x t i)) (S: ∀(A:TP)(i:Nat)(s:R8)(Q:RZ->R8->Prop)(E:RZ->R8->Prop),s.heap.IsStrIter it ty x t i->Q (.ref it) s->SD (SN P w) A (HS (.ref it)) Q E s) :
  Turn P w K tg IT ρ0 h0 [it] it (λi h=>h.IsStrIter it ty x t i) where
 mem:=Sf.mpr rfl
 obj:=nu λi h ⟨o,e,c,d⟩=>⟨o,e,λv z=>by rw[d] at z;cases z⟩
 keep:=λi h h' st k=>let ⟨o,e,r⟩:=st;⟨o,k it (Sf.mpr rfl) o e,r⟩
 item:=by
  intro X pins v ρ p s E Q y i hP hw hK hc I g hf st fn hx hQ;subst hP hw hK;obtain⟨o,e,c,d⟩:=id st;rw[hi,Sq] at hx;have hlt:i < x.cps.size:=by
   rcases TJ i x.cps.size with z | z
   . exact z
   . rw[Tn (by rw[Tw];exact z)] at hx;cases hx
  refine(W X.A (I.ok.hd hc)).item i s _ _ hlt st λu h' tk hv st' hk=>?_;obtain⟨cp,_,hcp,rfl⟩:=hv;have T:=I.oX (t':=tk) hf e (λus n z=>by rw[d] at z;cases z) (λb o hb e=>hk b o (λz=>hb (Sf.mp z)) e);obtain⟨o',e',c',d'⟩:=id st';refine⟨_,rfl,xB (s:={ s with heap:=h',toks:=tk}) e' c' d' hty (hQ _ _ T.1 T.2 ?_ st')⟩;rw[WB,hcp] at hx;cases hx;exact⟨_,rfl⟩
 done:=by
  intro X pins v ρ p s E Q i hP hw hK hc I g hf st fn hl hQ;subst hP hw hK;obtain⟨o,e,c,d⟩:=id st;have hi':i=x.cps.size:=by rw[hl,hi,xn,Tw]
  subst hi';exact(W X.A (I.ok.hd hc)).done s _ _ st λh' tk hk=>by
   have T:=I.oX (t':=tk) hf e (λus n z=>by rw[d] at z;cases z) (λb o hb e=>hk b o (λz=>hb (Sf.mp z)) e);exact⟨rfl,hQ _ T.1 T.2⟩
 self:=λA i s Q E st h=>S A i s Q E st h
theorem zR{it:Sl}{lo:Int}{n:Nat}(hi:IT.items=aJ lo n):Turn P w K tg IT ρ0 h0 [it] it (λi h=>IsRangeIter h it (lo+(i:Nat)*1) ((n:Int) - (i:Nat)) 1) where
 mem:=Sf.mpr rfl
 obj:=nu λi h st=>⟨_,st,λv z=>by cases(show XM _=Data.cell v from z)⟩
 keep:=λi h h' st k=>k it (Sf.mpr rfl) _ st
 item:=by
  intro X pins v ρ p s E Q y i hP hw hK hc I g hf st fn hx hQ;subst hP hw hK;rw[hi] at hx;unfold aJ at hx;rw[Sq] at hx;have hlt:i < n:=by
   rcases TJ i n with z | z
   . exact z
   . rw[Tn (by rw[U4];exact z)] at hx;cases hx
  rw[W7 hlt] at hx;cases hx;refine(Walks.range (prog:=X.prog) (w:=X.w) (I.ok.hd hc) it lo 1 n).item i s _ _ hlt st λu h' tk hv st' kk=>?_;obtain⟨t,rfl⟩:=hv;have T:=I.oX (t':=tk) hf st (λus n z=>by cases(show XM _=Data.seq _ _ from z)) (λb o hb e=>kk b o (λz=>hb (Sf.mp z)) e);refine⟨_,rfl,xB (s:={ s with heap:=h',toks:=tk}) (n:= "range_iterator") st' rfl rfl (by decide) (hQ _ _ T.1 T.2 ⟨t,?_⟩ st')⟩;rw[Int.mul_one]
 done:=by
  intro X pins v ρ p s E Q i hP hw hK hc I g hf st fn hl hQ;subst hP hw hK;rw[hi] at hl;have hl':i=n:=by rw[hl];unfold aJ;rw[xn,U4]
  exact wpAny_pyNext_range_end (I.ok.hd hc) st (by omega) λh' eb=>by
   have T:=I.oX (t':=s.toks) hf st (λus n z=>by cases(show XM _=Data.seq _ _ from z)) (λb o hb e=>eb b o hb e);exact⟨rfl,hQ _ T.1 T.2⟩
 self:=λ_ _ _ _ _ st h=>wpAny_pyIter_rangeiter st h
end
section
variable{X:Cx}{pg:Tb}{k:Nat}{tg l a b:Tr}{ma:ME}{mr:MA}{p pos:Pos}{pins:List (Sl × Obj)}{v:ay}{ρ :Ps}{q:PH}{s:R8}{Q:RZ->R8->Prop}
theorem cA{h:SM}{o:Obj}: ∀ b u,h.get? b=fI u->(h.push o).get? b=fI u:=λ_ _ e=>Sa _ e
theorem Eh{IT:kC}{z:Str}{t:Tok}(I:Inv X pins v ρ q s)(hi:IT.items=z.cps.toList.map λc=> .str ⟨#[c]⟩)(o:Out X (RI X pins v ρ s.heap tg Q) (.ok IT q)):SD (SN X.prog X.w) X.A (HS (.str z t)) Q X.xe s:=by
 cases ha:z.cps.all (· < 128)
 . exact wpAny_pyIter_wide ha (o _ _ _ _ _ (Gr.kept cA) (I.kept cA) (xE hi (by decide) (λA' hA=>Walks.strWide hA _ z t) λ_ _ _ _ _ st h=>wpAny_pyIter_striter_wide st h) ⟨_,Sv _ rfl,rfl,rfl⟩ I.FC)
 . exact wpAny_pyIter_ascii ha (o _ _ _ _ _ (Gr.kept cA) (I.kept cA) (xE hi (by decide) (λA' hA=>Walks.strAscii hA _ z t) λ_ _ _ _ _ st h=>wpAny_pyIter_striter_ascii st h) ⟨_,Sv _ rfl,rfl,rfl⟩ I.FC)
theorem xd{IT:kC}{c:Sl}{us:List RZ}(I:Inv X pins v ρ q s)(r:aB ρ s.heap IT.items us)(np:c ∉ ρ.pv)(t:Wl s.heap c us.toArray)(o:Out X (RI X pins v ρ s.heap tg Q) (.ok IT q)):SD (SN X.prog X.w) X.A (HS (.ref c)) Q X.xe s :=
 Ux (show s.heap.IsTuple c us.toArray from t) (o _ _ _ _ _ (Gr.kept cA) (I.kept cA) (zT (r.up (Gr.kept cA)) np (Gr.isTup (ρ := ρ) (Gr.kept cA) np t).2) ⟨_,Sv _ rfl,rfl,rfl⟩ I.FC)
theorem Lx(ha:JE X pg k l ma):JI X pg k tg l (iC ma):=⟨λA I o=>ha.h A I (o.go λx q o ρ1 s1 u g1 I1 r=>by
 have o':Out X (RI X _ _ ρ1 s1.heap tg _) (lA x q):=o.mp λ_ _ z ρ' s' it fp tn g=>z ρ' s' it fp tn (g1.trans g);unfold lA at o';cases x with
 | tup xs=>obtain⟨c,us,rfl,r,z,t⟩:=r;exact xd (IT:=⟨ox,xs⟩) I1 r z.2 t.tup o'
 | ktup xs=>obtain⟨c,us,rfl,r,z,t⟩:=r;exact xd (IT:=⟨ox,xs⟩) I1 r z.2 t o'
 | str z=>obtain⟨t,rfl⟩:=r;exact Eh I1 rfl o'
 | ref n =>
  dsimp only at o'
  split at o'
  . rename_i xs e;obtain⟨c,_,us,e1,rfl,rr,z,pl⟩:=I1.sim.lst I1.bk e r;exact wpAny_pyIter_list pl.isList (o' _ _ _ _ _ (Gr.kept cA) (I1.kept cA) (Ck rfl e1) ⟨_,Sv _ rfl,rfl,rfl⟩ I1.FC)
  . exact o'.elim
 | _=>exact o'.elim)⟩
theorem C0{IT:kC}{lo hi:Int}{t u w:Tok}{tk:Nat}(I:Inv X pins v ρ q s)(h1: -(2 ^ 62)<=lo)(h2:lo < 2 ^ 62)(h3: -(2 ^ 62)<=hi)(h4:hi < 2 ^ 62)(hI:IT.items=aJ lo (hi - lo).toNat)
  (o:Out X (RI X pins v ρ s.heap tg Q) (.ok IT q)):SD (SN X.prog X.w) X.A (HS (.ref s.heap.objs.size)) Q X.xe { s with heap:=s.heap.push { cls:= .type "range",data:= .fields #[.int lo t,.int hi u,.int 1 w]},toks:=tk}:=by
 refine wpAny_pyIter_range (HZ ..) (small_one h1 h2 h3 h4) ?_;have I1:Inv X pins v ρ q { s with heap:=s.heap.push { cls:= .type "range",data:= .fields #[.int lo t,.int hi u,.int 1 w]},toks:=tk}:=I.kept cA;refine o ρ _ _ _ _ ((Gr.kept cA).trans (Gr.kept cA)) (I1.kept (t':=tk) cA) (zR hI) ?_ I1.FC;have e1:lo+((0:Nat):Int)*1=lo:=by omega
 have e2:(((hi - lo).toNat:Nat):Int) - ((0:Nat):Int)=Yu lo hi 1:=by rw[rangeSize_one];split<;>omega
 show IsRangeIter _ _ (lo+((0:Nat):Int)*1) ((((hi - lo).toNat:Nat):Int) - ((0:Nat):Int)) 1;rw[e1,e2];exact Sv _ rfl
theorem Bx(hg:Gl X "range")(ha:JA X pg k [a] mr)(hs:autoParam (VU [a] X.env=[(false,Wm a X.env)]) aG):JI X pg k tg (.Call (.Name "range" p) [a] [] pos) (cY mr):=⟨λA I o =>
 Call_ (gO I hg (A.blt _ (by decide)) boot_range (Th (ha.h A I (o.go λxs _ o ρ1 s1 us g1 I1 r=>by
  split at o
  . rename_i j;obtain⟨hj,o⟩:=Out.ite o;obtain⟨_,_,rfl,⟨t,rfl⟩,r2⟩:=r;cases r2;exact call_range_1 (C0 (IT:=⟨ox,_⟩) I1 (by omega) (by omega) hj.1 hj.2 (by show aJ 0 _=_;rw[Int.sub_zero]) (o.mp λ_ _ z ρ' s' it fp tn g=>z ρ' s' it fp tn (g1.trans g)))
  . exact o.elim)) hs rfl))⟩
end
inductive xc(n:Nat)(ρ :Ps)(h:SM)(x C dx:Sl):Prop
 | mk (oe:Obj) (vs:Array RZ) (e:h.get? x=fI oe) (c:oe.cls= .ref C) (d:oe.dict=fI dx) (f:oe.data= .fields vs) (lo:n<=x) (nt: ¬ dF ρ x)
   (T:Sl) (oT:Obj) (ts:Array RZ) (fl:RZ) (v1:vs[1]?=fI (.ref T)) (nT:T≠x) (lT:n<=T) (tT: ¬ dF ρ T) (eT:h.get? T=fI oT) (dT:oT.data= .fields ts) (t3:ts[3]?=fI fl)
theorem xc.Q0{n:Nat}{ρ :Ps}{h:SM}{x C dx:Sl}:xc n ρ h x C dx->IQ n ρ h x C dx
 | ⟨oe,vs,e,c,d,f,lo,nt,T,oT,ts,fl,v1,nT,lT,tT,eT,dT,t3⟩=>⟨oe,vs,e,c,d,f,lo,nt,.inr ⟨T,oT,ts,fl,v1,nT,lT,tT,eT,dT,t3⟩⟩
structure fj(n:Nat)(ρ :Ps)(fs:List Sl)(h h':SM):Prop where
 keep: ∀ b o,h.get? b=fI o->(b < n\/dF ρ b\/ ∀ vs,o.data≠ .fields vs)->b ∉ fs->h'.get? b=fI o
 slot: ∀ b o,h.get? b=fI o->b∈fs-> ∃ sl,h'.get? b=fI { o with slots:=sl}
 size:h.objs.size<=h'.objs.size
theorem fj.trans{n:Nat}{ρ :Ps}{fs:List Sl}{h h1 h2:SM}(a:fj n ρ fs h h1)(b:fj n ρ fs h1 h2):fj n ρ fs h h2 :=
 ⟨λc o e p m=>b.keep c o (a.keep c o e p m) p m,λc o e m=>let ⟨_,e1⟩:=a.slot c o e m;let ⟨sl,e2⟩:=b.slot c _ e1 m;⟨sl,e2⟩,Sx a.size b.size⟩
theorem fj.gr{n:Nat}{ρ :Ps}{fs:List Sl}{h h':SM}(P:fj n ρ fs h h'):Gr ρ h ρ h':=Gr.of (λa o e _ ⟨us,m,d⟩=>by
 by_cases z:a∈fs
 . exact P.slot a o e z
 . exact⟨o.slots,P.keep a o e (.inr (.inr λvs z=>by rw[d] at z;cases z)) z⟩)
section
variable{M:Model}{A:TP}{E:RZ->R8->Prop}{s:R8}{env:Env}{outer:List Env}{base:SM}{L x C dx:Sl}{n:Nat}{ρ :Ps}
theorem mS{h:SM}{fs:List Sl}{T:Sl}{o:Obj}{ts:Array RZ}{i:Nat}{v:RZ}(e:h.get? T=fI o)(d:o.data= .fields ts)(hn:n<=T)(hH: ¬ dF ρ T)(hf:T ∉ fs) :
  fj n ρ fs h (h.update T (Vy (·.setIfInBounds i v))):=by
 have ne: ∀ b,b≠T->(h.update T (Vy (·.setIfInBounds i v))).get? b=h.get? b:=λb z=>S9 _ _ (VC z)
 refine⟨λb q e1 p _=>?_,λb q e1 m=>⟨q.slots,?_⟩,by rw[YJ];exact Si _⟩
 . refine(ne b λz=>?_).trans e1;subst z;rcases p with p | p | p
   . exact absurd p (Uq.mpr hn)
   . exact hH p
   . rw[e] at e1;cases e1;exact p _ d
 . exact(ne b λz=>hf (z ▸ m)).trans e1
theorem Bc{env':Env}{Q:RZ->R8->Prop}(hfr:A.frames=fI (env::outer))(hl:s.heap.FunFrames base (env::outer))(hf:env.frame=fI L)(hf':env'.frame=fI L)(h: ∀ g,Heap.SlotsOnly (kg (env::outer)) s.heap g->Q (.ref L) { s with heap:=g}):SD M A (frameOf env') Q E s:=by
 refine mh (wpAny_frameEnvs hfr ?_);rw[show((env::outer).dropWhile λy=>y.frame !=env'.frame)=env::outer from by simp[List.dropWhile,hf,hf']];refine mh (mh (wpAny_readyFrames_fun hl λg so=>Sg ?_));rw[hf];exact Sg (h g so)
theorem vX{env':Env}{head:RZ}{hadNext:Bool}{oe:Obj}{vs:Array RZ}{Q:Unit->R8->Prop}(hfr:A.frames=fI (env::outer))(hl:s.heap.FunFrames base (env::outer))(hf:env.frame=fI L)(hf':env'.frame=fI L)
  (hx:s.heap.get? x=fI oe) (c1:oe.cls= .ref C) (c2:oe.dict=fI dx) (c3:oe.data= .fields vs) (h1:1 < vs.size) (hn:n<=x) (hz:n<=s.heap.objs.size) (hH: ¬ dF ρ x) (hfree: ∀ a,s.heap.objs.size<=a-> ¬ dF ρ a)
  (h: ∀ h',fj n ρ (kg (env::outer)) s.heap h'->xc n ρ h' x C dx->Q () { s with heap:=h'}) :
  SD M A (do setField (.ref x) 1 (<- ZN head (<- frameOf env') .none (X5 L) .none (<- entryPlaceOf L hadNext))) Q E s:=by
 have nx:x ∉ kg (env::outer):=λm=>by
  obtain⟨_,o,ho,hnf⟩:=hl.mem m;rw[hx] at ho;cases ho;exact hnf vs c3
 refine mh (Bc hfr hl hf hf' λg so=>?_);refine mh (wpAny_entryPlaceOf λpl hpl=>?_);unfold ZN newFields;refine mh (UB ?_ (hpl.sizeOk5 _ _ _ _ _));have gx:g.get? x=fI oe:=(so.2.1 x nx).trans hx;generalize hto:({ cls:=VH "traceback",dict:=ox,data:=XM ([head,TZ L,Tx,X5 L,Tx]++(if pl.isEmpty then Sz 6 Tx else pl)).toArray}:Obj)=to;have td:to.data= .fields ([head,TZ L,Tx,X5 L,Tx]++(if pl.isEmpty then Sz 6 Tx else pl)).toArray:=by rw[<- hto]
 have px:(g.push to).get? x=fI oe:=Sa _ gx;have sz:g.objs.size=s.heap.objs.size:=so.1;have ltx:x < g.objs.size:=Su gx;refine Wo px c3 h1 (h _ ?_ ?_)
 . have p1:fj n ρ (kg (env::outer)) s.heap (g.push to):=by
    refine⟨λb o e _ m=>Sa _ ((so.2.1 b m).trans e),λb o e _=>?_,by rw[TL,sz];exact WN _⟩;obtain⟨sl,e2⟩:=so.2.2 b o e;exact⟨sl,Sa _ e2⟩
   exact p1.trans (mS px c3 hn hH nx)
 . have d3:=Vn c3 (·.setIfInBounds 1 (TZ g.objs.size))
   refine⟨_,_,TH _ px (UW d3),by rw[JX];exact c1,?_,d3,hn,hH,g.objs.size,to,_,X5 L,by simp[h1],TB ltx,by rw[sz];exact hz,hfree _ (by rw[sz];exact Si _),?_,td,by simp⟩
   . have:(Vy (·.setIfInBounds 1 (TZ g.objs.size)) oe).dict=oe.dict:=by
      obtain⟨_,_,dt,_⟩:=oe;cases dt<;>rfl
     rw[this];exact c2
   . rw[S9 _ _ (SW ltx)];exact Sv _ (UW td)
theorem xu{env':Env}{Q:Unit->R8->Prop}(hfr:A.frames=fI (env::outer))(hl:s.heap.FunFrames base (env::outer))(hf:env.frame=fI L)(hf':env'.frame=fI L)(F:IQ n ρ s.heap x C dx)(hz:n<=s.heap.objs.size)(hfree: ∀ a,s.heap.objs.size<=a-> ¬ dF ρ a)
  (h: ∀ h',fj n ρ (kg (env::outer)) s.heap h'->xc n ρ h' x C dx->Q () { s with heap:=h'}):SD M A (NC (.ref x) env') Q E s:=by
 obtain⟨oe,vs,hx,c1,c2,c3,hn,hH,v1 | ⟨T,oT,ts,fl,v1,nT,hnT,hHT,eT,dT,t3⟩⟩:=F
 . unfold NC;simp only[hf'];refine mh (S7 hx c3 v1 ?_);rw[if_neg (by decide)];exact vX hfr hl hf hf' hx c1 c2 c3 (T1.mp v1).1 hn hz hH hfree h
 . unfold NC;simp only[hf'];refine mh (S7 hx c3 v1 ?_);rw[if_pos (show(TZ T !=Tx)=true from by simp)];refine mh (S7 eT dT t3 ?_);by_cases fe:(fl == X5 L)=true
   . rw[if_pos fe];exact Sg (h s.heap ⟨λ_ _ e _ _=>e,λ_ o e _=>⟨o.slots,e⟩,Si _⟩ ⟨oe,vs,hx,c1,c2,c3,hn,hH,T,oT,ts,fl,v1,nT,hnT,hHT,eT,dT,t3⟩)
   rw[if_neg fe];refine mh (Wo eT dT (T1.mp t3).1 ?_);have nfT:T ∉ kg (env::outer):=λm=>by
    obtain⟨_,o,ho,hnf⟩:=hl.mem m;rw[eT] at ho;cases ho;exact hnf ts dT
   have p1:fj n ρ (kg (env::outer)) s.heap (s.heap.update T (Vy (·.setIfInBounds 3 Tx))):=mS eT dT hnT hHT nfT
   have zz:(s.heap.update T (Vy (·.setIfInBounds 3 Tx))).objs.size=s.heap.objs.size:=YJ ..
   refine vX (s:={ s with heap:=s.heap.update T (Vy (·.setIfInBounds 3 Tx))}) hfr (hl.of_keeps λb o hb hnf=>⟨o,(S9 _ _ λz=>?_).trans hb,rfl⟩) hf hf' ((S9 _ _ nT).trans hx) c1 c2 c3 (T1.mp v1).1 hn (by rw[zz];exact hz) hH (λa ha=>hfree a (by rw[zz] at ha;exact ha)) λh' p f=>h h' (p1.trans p) f
   subst z;rw[eT] at hb;cases hb;exact hnf ts dT
theorem E8{Q:Unit->R8->Prop}{fs:List Sl}(hfs: ∀ b∈fs,∃ o,s.heap.get? b=fI o/\ ∀ vs,o.data≠ .fields vs)(F:IQ n ρ s.heap x C dx)
  (h: ∀ h',fj n ρ fs s.heap h'->IQ n ρ h' x C dx->Q () { s with heap:=h'}):SD M A (ZJ (.ref x) ox) Q E s:=by
 obtain⟨oe,vs,hx,c1,c2,c3,hn,hH,v1 | ⟨T,oT,ts,fl,v1,nT,hnT,hHT,eT,dT,t3⟩⟩:=F
 . unfold ZJ;refine mh (S7 hx c3 v1 ?_);rw[if_neg (by decide)];exact Sg (h s.heap ⟨λ_ _ e _ _=>e,λ_ o e _=>⟨o.slots,e⟩,Si _⟩ ⟨oe,vs,hx,c1,c2,c3,hn,hH,.inl v1⟩)
 . refine wpAny_setFlight_none hx c3 v1 eT dT (T1.mp t3).1 (h _ (mS eT dT hnT hHT λm=>?_) ?_)
   . obtain⟨o,ho,hnf⟩:=hfs T m;rw[eT] at ho;cases ho;exact hnf ts dT
   . have d3:=Vn dT (·.setIfInBounds 3 Tx)
     exact⟨oe,vs,(S9 _ _ nT).trans hx,c1,c2,c3,hn,hH,.inr ⟨T,_,_,_,v1,nT,hnT,hHT,TH _ eT (UW d3),d3,Uv (by simpa using(T1.mp t3).1)⟩⟩
theorem E4{Q:Unit->R8->Prop}{fs:List Sl}{fr:Option Sl}(hfs: ∀ b∈fs,∃ o,s.heap.get? b=fI o/\ ∀ vs,o.data≠ .fields vs)(F:xc n ρ s.heap x C dx)
  (h: ∀ h',fj n ρ fs s.heap h'->xc n ρ h' x C dx->Q () { s with heap:=h'}):SD M A (ZJ (.ref x) fr) Q E s:=by
 obtain⟨oe,vs,hx,c1,c2,c3,hn,hH,T,oT,ts,fl,v1,nT,hnT,hHT,eT,dT,t3⟩:=F;unfold ZJ;refine mh (S7 hx c3 v1 ?_);rw[if_pos (show(TZ T !=Tx)=true from by simp)];have t3':=(T1.mp t3).1;refine Wo eT dT t3' (h _ (mS eT dT hnT hHT λm=>?_) ?_)
 . obtain⟨o,ho,hnf⟩:=hfs T m;rw[eT] at ho;cases ho;exact hnf ts dT
 . have d3:=Vn dT (·.setIfInBounds 3 (fr.elim Tx λf=>X5 f))
   exact⟨oe,vs,(S9 _ _ nT).trans hx,c1,c2,c3,hn,hH,T,_,_,_,v1,nT,hnT,hHT,TH _ eT (UW d3),d3,Uv (by simpa using t3')⟩
end
theorem fj.sim{P:SP}{w:Tp}{base:SM}{n:Nat}{ρ :Ps}{p:PH}{fs:List Sl}{h h':SM}(P':fj n ρ fs h h')(free: ∀ b∈fs,¬ dF ρ b)(s:hX P w base ρ p h):hX P w base ρ p h' :=
 s.keep P'.gr λb t u e=>P'.keep b u e (.inr (.inl t)) λz=>free b z t
theorem fj.un{n:Nat}{ρ₀ ρ :Ps}{fs fs' ex:List Sl}{h₀ h h':SM}(P:fj n ρ fs' h h')(u:Un fs ex ρ₀ h₀ ρ h)(hn:h₀.objs.size<=n)(h1: ∀ b∈fs',b∈fs\/h₀.objs.size<=b)(h2: ∀ b∈fs,b∈fs'):Un fs ex ρ₀ h₀ ρ h':=by
 have lt: ∀{b o},h₀.get? b=fI o->b < n:=λe=>SK (Su e) hn;have nf: ∀{b o},h₀.get? b=fI o->b ∉ fs->b ∉ fs':=λe nb hb=>(h1 _ hb).elim nb λz=>absurd (Su e) (Uq.mpr z);refine⟨λb o e n' nb hx=>P.keep b o (u.keep b o e n' nb hx) (.inl (lt e)) (nf e nb),λb o e n' hb hx=>?_,u.free,λb o e hx=>?_,u.gr.trans P.gr⟩
 . obtain⟨_,e1⟩:=u.slot b o e n' hb hx;obtain⟨sl',e2⟩:=P.slot b _ e1 (h2 b hb);exact⟨sl',e2⟩
 . obtain⟨o',e1⟩:=u.there b o e hx;by_cases hb:b∈fs'
   . obtain⟨sl,e2⟩:=P.slot b _ e1 hb;exact⟨_,e2⟩
   . exact⟨o',P.keep b o' e1 (.inl (lt e)) hb⟩
theorem fj.JV{n:Nat}{ρ :Ps}{fs:List Sl}{h h':SM}{d:Sl}{us:List (Str × PV)}(P:fj n ρ fs h h')(hf:d ∉ fs)(F:uM ρ h d us):uM ρ h' d us:=by
 obtain⟨fws,mA,r,⟨o,es,ep,e,dd,z⟩,y⟩:=F;exact⟨fws,mA,r.up P.gr,⟨o,es,ep,P.keep d o e (.inr (.inr λvs q=>by rw[dd] at q;cases q)) hf,dd,z⟩,y⟩
theorem IQ.mono{n m:Nat}{ρ :Ps}{h:SM}{x C dx:Sl}(hn:n<=m):IQ m ρ h x C dx->IQ n ρ h x C dx
 | ⟨oe,vs,e,c,d,f,lo,nt,tb⟩=>⟨oe,vs,e,c,d,f,Sx hn lo,nt,tb.imp id λ⟨T,oT,ts,fl,a1,a2,a3,a4⟩=>⟨T,oT,ts,fl,a1,a2,Sx hn a3,a4⟩⟩
noncomputable def wC(P:SP)(w:Tp)(K:Sy)(mg:Str->Option RZ)(base:SM)(N:List Str)(qual:Str)(scope:XG)(f:Sl)(cd:RZ)(A:TP)(outer:List Env)(s:R8)(ρ :Ps)(R:RZ->R8->Prop):Cx where
 prog:=P
 w:=w
 K:=K
 mg:=mg
 base:=base
 A:=A.deeper (Xl qual scope s.heap.objs.size f cd)
 N:=N
 s₀ :=s
 ρ₀ := ρ
 env:=Xl qual scope s.heap.objs.size f cd
 outer:=outer
 stack:=Xl qual scope s.heap.objs.size f cd::outer
 ex:=[]
 calm:=true
 fn:=λ_=>true
 pn:=[]
 xe:=λe s'=>SD (SN P w) (A.deeper (Xl qual scope s.heap.objs.size f cd)) (leaving (Xl qual scope s.heap.objs.size f cd) e) (λ_ s''=>R e s'') (λe' s''=>R e' s'') s'
section
variable {P:SP} {w:Tp} {K:Sy} {mg:Str->Option RZ} {base:SM} {N ps:List Str} {qual:Str} {scope:XG} {f:Sl} {cd:RZ} {A:TP} {outer:List Env} {s s1:R8} {ρ :Ps} {R:RZ->R8->Prop}
theorem EG{C:Sl}{us:List (Str × PV)}{p':PH}(hR: ∀ e s',Flying P w base (kg outer) [] ρ s C us p' e s'->R e s'):Lh (wC P w K mg base N qual scope f cd A outer s ρ R) C us p':=by
 rintro pins v ρ1 p s1 e s' ch I hch ⟨x,dx, ρ',rfl,os,bare,un,sim,F,at_,lo,nt⟩;have J:=I.call os un sim bare hch;have hl:=J.stack;have hz:s.heap.objs.size<=s1.heap.objs.size:=I.sz;show SD _ _ (leaving _ _) _ _ s';unfold leaving;refine mh (xu J.ok.frames hl rfl rfl (F.mono hz) J.sz (λa ha=>sim.fresh ha) λh1 p1 F1=>?_);have dk: ∀ b∈kg (Xl qual scope s.heap.objs.size f cd::outer),∀ o,s'.heap.get? b=fI o-> ∃ o',h1.get? b=fI o'/\ ∀ vs,o'.data≠ .fields vs:=λb hb o e=>by
  obtain⟨_,o2,ho,hnf⟩:=hl.mem hb;obtain⟨sl,e1⟩:=p1.slot b o2 ho hb;exact⟨_,e1,hnf⟩
 refine E8 (s:={ s' with heap:=h1}) (fs:=kg (Xl qual scope s.heap.objs.size f cd::outer)) (λb hb=>let ⟨_,o,ho,_⟩:=hl.mem hb;dk b hb o ho) F1.Q0 λh2 p2 F2=>hR _ _ ?_;have q:=p1.trans p2;have df:dx ∉ kg (Xl qual scope s.heap.objs.size f cd::outer):=λz=>by
  rcases Sd.mp (J.j6 dx z) with y | y
  . exact absurd I.lt (Uq.mpr (y ▸ lo))
  . exact I.F5 lo y
 exact ⟨x,dx, ρ',rfl,J.os,J.bare,q.un J.base (Si _) (λb hb=>(Sd.mp (show b∈s.heap.objs.size::kg outer from hb)).elim (λz=> .inr (YL z.symm)) .inl) λb hb=>Sk _ hb,q.sim J.nH sim,F2,q.JV df at_,Sx hz lo,nt⟩
end
end _P
end
section
open PySem PySem.W PyProof.Rows
namespace _L
open PySem PySem.Spec PyProof.Rows
theorem t6{kindOf}: ∀{binds m},(∀ v,(x,v) ∉ binds)->bindL kindOf binds m x=m x
 | [],_,_=>rfl
 | (n,v)::r,m,h=>by
  unfold bindL;rw[t6 λw hw=>h w (Sk _ hw)];split
  . have:x≠n:=by rintro rfl;exact h v So
    simp[this]
  . rfl
theorem tA{kindOf}: ∀{binds m},(∀ v,(x,v) ∉ binds)->bindC kindOf binds m x=m x
 | [],_,_=>rfl
 | (n,v)::r,m,h=>by
  unfold bindC;rw[tA λw hw=>h w (Sk _ hw)];split
  . rfl
  . have:x≠n:=by rintro rfl;exact h v So
    simp[this]
theorem tH{kindOf:Str->Option Wh}{x:Str}{v:RZ}: ∀{P:List Str}{vs:List RZ}{i:Nat}{m:Str->Option RZ},P.Nodup->P[i]?=fI x->vs[i]?=fI v->kindOf x=fI .local ->
  bindL kindOf (P.zip vs) m x=fI v
 | [],_,_,_,_,h,_,_=>by simp at h
 | _::_,[],_,_,_,_,h,_=>by simp at h
 | p::P,w::vs,0,m,nd,h1,h2,hk=>by
  simp at h1 h2;subst h1;subst h2;show bindL kindOf ((p,w)::P.zip vs) m p=_;unfold bindL;rw[t6 λv hv=>(U1.mp nd).1 (V4 hv).1,if_pos hk];simp
 | p::P,w::vs,i+1,m,nd,h1,h2,hk=>by
  unfold bindL;exact tH (U1.mp nd).2 (by simpa using h1) (by simpa using h2) hk
theorem tN{kindOf:Str->Option Wh}{x:Str}{v:RZ}: ∀{P:List Str}{vs:List RZ}{i:Nat}{m:Str->Option RZ},P.Nodup->P[i]?=fI x->vs[i]?=fI v->kindOf x≠fI .local ->
  bindC kindOf (P.zip vs) m x=fI v
 | [],_,_,_,_,h,_,_=>by simp at h
 | _::_,[],_,_,_,_,h,_=>by simp at h
 | p::P,w::vs,0,m,nd,h1,h2,hk=>by
  simp at h1 h2;subst h1;subst h2;show bindC kindOf ((p,w)::P.zip vs) m p=_;unfold bindC;rw[tA λv hv=>(U1.mp nd).1 (V4 hv).1,if_neg hk];simp
 | p::P,w::vs,i+1,m,nd,h1,h2,hk=>by
  unfold bindC;exact tN (U1.mp nd).2 (by simpa using h1) (by simpa using h2) hk
theorem wg{sc:XG}(h:sc.names.lookup x=fI .cell): ∃ c,(U0 n sc.names []).lookup x=fI c:=by
 have q:=Wq _ n [] (.inl h);exact VV.mp q
theorem Binds.all{K}(h: ∀ us ,us.length=ps.length->Bd fd ⟨us,[]⟩=pure (ps.zip us)):Binds K fd ps []:=λs us _ hl=>by
 rw[SA] at hl ⊢;exact .of_eq (h us hl)
noncomputable def ji(s:XX):=match s with
 | .FunctionDef _ a _ _ _ _ _ _ _ _=>a
 | _=>{ posonlyargs:=[],args:=[],vararg:=ox,kwonlyargs:=[],kw_defaults:=[],kwarg:=ox,defaults:=[]}
noncomputable def fT(s:XX):=match s with
 | .FunctionDef _ _ b _ _ _ _ _ _ _=>b
 | _=>[]
noncomputable def bI(s:XX):=match s with
 | .FunctionDef _ _ _ _ _ _ sc _ _ _=>sc
 | _=>{ kind:= .function,names:=[],isGenerator:=false,isCoroutine:=false}
structure Jw(K:Sy)(x qual:Str)(st:XX)(f:Sl)(fd:Vt):Prop where
 ex: ∃(oc:RZ)(od:Option Sl)(kV doc pm:RZ)(an:Option Sl)(cdv ct:RZ)(osl:Array (Option RZ)),
  fd=VN x qual (ji st) (fT st) (bI st) .none kV doc pm an cdv ct/\K.lookup f=fI ⟨oc,od,.func fd,osl⟩/\Zo K cdv qual=true
 kp:Vf K (.ref f)=true
theorem Jw.binds{K:Sy}{x qual:Str}{st:XX}{f:Sl}{fd:Vt}{ps:List Str}(F:Jw K x qual st f fd)
  (h: ∀(kV doc pm:RZ)(an:Option Sl)(cdv ct:RZ)(us:List RZ),us.length=ps.length->Bd (VN x qual (ji st) (fT st) (bI st) .none kV doc pm an cdv ct) ⟨us,[]⟩=pure (ps.zip us)):Binds K fd ps []:=by
 obtain⟨oc,od,kV,doc,pm,an,cdv,ct,osl,rfl,lk,hcd⟩:=F.ex;exact .all (h kV doc pm an cdv ct)
theorem LY{K:Sy}{x qual:Str}{st:XX}{f:Sl}{oc:RZ}{od an:Option Sl}{osl:Array (Option RZ)}{kV doc pm cdv ct:RZ}(l:K.lookup f=fI ⟨oc,od,.func (VN x qual (ji st) (fT st) (bI st) .none kV doc pm an cdv ct),osl⟩)
  (c:Zo K cdv qual=true) (k:Vf K (.ref f)=true):Jw K x qual st f (VN x qual (ji st) (fT st) (bI st) .none kV doc pm an cdv ct):=⟨⟨oc,od,kV,doc,pm,an,cdv,ct,osl,rfl,l,c⟩,k⟩
def At K (mg:Str->Option RZ) x st:= ∃(f:Sl)(fd:Vt),Jw K x x st f fd/\mg x=fI (.ref f)
theorem Om{K st kV}(X:K.In h)(G:h.Ns UI mg)
  (a:y7 K UI x=fI (fI (.ref f))) (l:K.lookup f=fI ⟨oc,od,.func (VN x x (ji st) (fT st) (bI st) .none kV doc pm an cdv ct),osl⟩) (c:Zo K cdv x=true) (k:Vf K (.ref f)=true):At K mg x st :=
 ⟨f,_,LY l c k,UJ X G a⟩
end _L
namespace _P
open PySem PySem.Spec PyProof.Rows _L
abbrev Ps.low (ρ ρ':Ps):Ps:=⟨ρ.l, ρ'.pv⟩
section
variable {P:SP} {w:Tp} {base:SM} {ρ ρ':Ps} {h h':SM} {q:Sl × Option Sl} {p p':PH}
mutual
theorem rel.hU(g:Gr ρ h ρ' h'): ∀(x:PV)(u:RZ),x.hU ρ.l.length=true->rel ρ' h' x u->rel (ρ.low ρ') h' x u
 | .non,_,_,r=>r
 | .bl _,_,_,r=>r
 | .int _,_,_,r=>r
 | .str _,_,_,r=>r
 | .ty _,_,_,r=>r
 | .ref n,_,f,⟨q,e,z⟩=>by
  have f:=of_decide_eq_true f;have:=g.pre n _ (R6 f);rw[e] at this;exact⟨q,(R6 f).trans (by rw[<- SY this]),z⟩
 | .tup xs,_,f,⟨a,us,e,r,z⟩=>⟨a,us,e,aB.hU g xs us f r,z⟩
 | .ktup xs,_,f,⟨a,us,e,r,z⟩=>⟨a,us,e,aB.hU g xs us f r,z⟩
theorem aB.hU(g:Gr ρ h ρ' h'): ∀(xs:List PV)(us:List RZ),PV.gp ρ.l.length xs=true->aB ρ' h' xs us->aB (ρ.low ρ') h' xs us
 | [],_,_,r=>r
 | x::r,_,f,⟨u,t,e,a,b⟩=>have f:=SU.mp f;⟨u,t,e,rel.hU g x u f.1 a,aB.hU g r t f.2 b⟩
end
mutual
theorem rel.low: ∀(x:PV)(u:RZ),rel ρ h x u->x.hU ρ.l.length=true
 | .non,_,_=>rfl
 | .bl _,_,_=>rfl
 | .int _,_,_=>rfl
 | .str _,_,_=>rfl
 | .ty _,_,_=>rfl
 | .ref n,_,⟨q,e,z⟩=>decide_eq_true (RY.mp e).1
 | .tup xs,_,⟨_,us,_,r,_⟩=>aB.low xs us r
 | .ktup xs,_,⟨_,us,_,r,_⟩=>aB.low xs us r
theorem aB.low: ∀(xs:List PV)(us:List RZ),aB ρ h xs us->PV.gp ρ.l.length xs=true
 | [],_,_=>rfl
 | x::r,_,⟨u,t,_,a,b⟩=>SU.mpr ⟨rel.low x u a,aB.low r t b⟩
end
theorem RK.low{κ :Type}{kvs:List (κ × PV)}{kus:List (κ × RZ)}(r:RK ρ h kvs kus):PV.gp ρ.l.length (kvs.map (·.2))=true:=by
 induction r with
 | nil=>rfl
 | cons a _ ih=>exact SU.mpr ⟨rel.low _ _ a.2,ih⟩
theorem RK.hU{κ :Type}{kvs:List (κ × PV)}{kus:List (κ × RZ)}(g:Gr ρ h ρ' h')(r:RK ρ' h' kvs kus)(f:PV.gp ρ.l.length (kvs.map (·.2))=true):RK (ρ.low ρ') h' kvs kus:=by
 induction r with
 | nil=>exact .nil
 | cons a _ ih=>have f:=SU.mp f;exact .cons ⟨a.1,rel.hU g _ _ f.1 a.2⟩ (ih f.2)
theorem Nw.low{a:Sl}{kvs:List (List Key × PV)}(r:Nw P w ρ h a kvs):PV.gp ρ.l.length (kvs.map (·.2))=true:=by
 obtain⟨xs,r,z⟩:=r
 clear z
 induction r with
 | nil=>rfl
 | cons a _ ih=>exact SU.mpr ⟨rel.low _ _ a.2.2,ih⟩
theorem qu{n:Nat}: ∀(ks:List Key),PV.gp n (ks.map λk=>match k with | .inl i=>PV.int i | .inr z=>PV.str z)=true
 | []=>rfl
 | .inl _::r=>SU.mpr ⟨rfl,qu r⟩
 | .inr _::r=>SU.mpr ⟨rfl,qu r⟩
theorem Nw.hU{a:Sl}{kvs:List (List Key × PV)}(g:Gr ρ h ρ' h')(r:Nw P w ρ' h' a kvs)(f:PV.gp ρ.l.length (kvs.map (·.2))=true):Nw P w (ρ.low ρ') h' a kvs:=by
 obtain⟨xs,r,z⟩:=r;refine⟨xs,?_,z⟩
 clear z
 induction r with
 | nil=>exact .nil
 | cons a _ ih=>have f:=SU.mp f;exact .cons ⟨a.1,rel.hU g _ _ (qu _) a.2.1,rel.hU g _ _ f.1 a.2.2⟩ (ih f.2)
theorem jV.low{o:PO}(r:jV P w base ρ h q o):o.hU ρ.l.length=true:=by
 cases o with
 | lst xs=>obtain⟨_,us,r,_⟩:=r;exact aB.low _ _ r
 | fro xs=>obtain⟨_,us,r,_⟩:=r;exact aB.low _ _ r
 | bu kvs=>obtain⟨_,_,us,r,_⟩:=r;exact r.low
 | dcT kvs=>obtain⟨_,_,_,r⟩:=r;exact r.low
 | obj C fs=>obtain⟨_,_,_,_,_,_,_,r,_⟩:=r;exact r.low
 | exc C fs=>obtain⟨_,_,_,_,_,_,r,_⟩:=r;exact r.low
theorem jV.hU{o:PO}(g:Gr ρ h ρ' h')(f:o.hU ρ.l.length=true)(r:jV P w base ρ' h' q o):jV P w base (ρ.low ρ') h' q o:=by
 cases o with
 | lst xs=>obtain⟨a,us,r,b⟩:=r;exact⟨a,us,aB.hU g _ _ f r,b⟩
 | fro xs=>obtain⟨a,us,r,b⟩:=r;exact⟨a,us,aB.hU g _ _ f r,b⟩
 | bu kvs=>obtain⟨a,b,us,r,c⟩:=r;exact⟨a,b,us,r.hU g f,c⟩
 | dcT kvs=>obtain⟨a,b,c,r⟩:=r;exact⟨a,b,c,r.hU g f⟩
 | obj C fs=>obtain⟨a,b,c,d,e,fw,mA,r,z⟩:=r;exact⟨a,b,c,d,e,fw,mA,r.hU g f,z⟩
 | exc C fs=>obtain⟨a,b,c,d,fw,mA,r,z⟩:=r;exact⟨a,b,c,d,fw,mA,r.hU g f,z⟩
theorem hX.drop(s:hX P w base ρ p h)(g:Gr ρ h ρ' h')(s':hX P w base ρ' p' h')(ok:bX p.length p p'=true):hX P w base (ρ.low ρ') (p'.take p.length) h':=by
 have old: ∀{i:Nat}{o:PO},(p'.take p.length)[i]?=fI o->i < p.length/\p'[i]?=fI o:=λ{i o} e=>by
  have hi:i < p.length:=by
   have:=(RY.mp e).1;rw[TM] at this;omega
  rw[Xh,if_pos hi] at e;exact⟨hi,e⟩
 refine⟨by rw[TM,s.len,WW (pZ ok)],λi j o q r e f a b c d x y n=>s'.nd i j o q r e f (old a).2 b (g.pre _ _ c) d (g.pre _ _ x) y n,λi o q e ea=>?_,s'.pv,s'.Nu⟩;obtain⟨o0,e0,_,z⟩:=tG ok e;refine(s'.ob i o q (old e).2 (g.pre _ _ ea)).hU g ?_;rcases z with z | z
 . rw[<- z];exact(s.ob i o0 q e0 ea).low
 . rw[s.len];exact z
theorem Gr.QK(g:Gr ρ h ρ' h'){b:Sl}(t:dF ρ b):dF ρ' b:=let ⟨q,m,e,he,z⟩:=t;let ⟨_,hi⟩:=Wz.mp m;⟨q,Se (g.pre _ _ hi),e,he,z⟩
mutual
theorem PV.xY{n:Nat}: ∀ x:PV,x.flat=true->x.hU n=true
 | .non,_=>rfl
 | .bl _,_=>rfl
 | .int _,_=>rfl
 | .str _,_=>rfl
 | .ty _,_=>rfl
 | .ref _,f=>by cases f
 | .tup xs,f=>PV.kz xs f
 | .ktup xs,f=>PV.kz xs f
theorem PV.kz{n:Nat}: ∀ xs:List PV,PV.bh xs=true->PV.gp n xs=true
 | [],_=>rfl
 | x::r,f=>have f:=SU.mp f;SU.mpr ⟨PV.xY x f.1,PV.kz r f.2⟩
end
end
section
variable{P:SP}{w:Tp}{base:SM}{outer:List Env}{ρ ρ':Ps}{s s':R8}{p p':PH}{R:vD->R8->Prop}
theorem Un.less{fs ex:List Sl}{h h':SM}(u:Un fs ex ρ h ρ' h'):Un fs ex ρ h (ρ.low ρ') h':=⟨u.keep,u.slot,λ_ _ _ n _=>n,u.there,λ_ _ e=>e,u.gr.tup,u.gr.pv,u.gr.sub⟩
theorem qN(sm:hX P w base ρ p s.heap){v:PV}{u:RZ}(o:Kv P w base outer ρ s R (settle p v p'))(a:After P w base outer ρ s p' ρ' s')(r:rel ρ' s'.heap v u):R (.ok (.ret u)) s':=by
 unfold settle at o;split at o
 . rename_i c;have c:=SU.mp c;exact o (ρ.low ρ') s' u ⟨a.os,a.bare,a.un.less,sm.drop a.un.gr a.sim c.2⟩ (rel.hU a.un.gr _ _ (PV.xY _ c.1) r)
 . exact o ρ' s' u a r
theorem aa8(sm:hX P w base ρ p s.heap){C:Nat}{us:List (Str × PV)}{e:RZ}(o:Kv P w base outer ρ s R (pL p C us p'))(f:Flying P w base (kg outer) [] ρ s C us p' e s'):R (.error e) s':=by
 unfold pL at o;split at o
 . rename_i c;have c:=SU.mp c;obtain ⟨x,dx, ρ',eq,os,bare,un,sim,⟨oe,vs,e1,e2,e3,e4,e5,e6,tb⟩,⟨fws,mA,r,z⟩,lo,nt⟩:=f;have g:=un.gr;exact o e s' ⟨x,dx, ρ.low ρ',eq,os,bare,un.less,sm.drop g sim c.2,⟨oe,vs,e1,e2,e3,e4,e5,λt=>e6 (g.QK t),tb.imp id λ⟨T,oT,ts,fl,a1,a2,a3,a4,a5⟩=>⟨T,oT,ts,fl,a1,a2,a3,λt=>a4 (g.QK t),a5⟩⟩,⟨fws,mA,r.hU g (PV.kz _ c.1),z⟩,lo,λt=>nt (g.QK t)⟩
 . exact o e s' f
end
theorem A5{us:List RZ}{ρ :Ps}{h:SM}{xs:List PV}{n i:Nat}{v:PV}(r:aB ρ h xs us)(e:(xs.map fI++Sz n ox)[i]?=fI (fI v)): ∃ u,us[i]?=fI u∧rel ρ h v u:=by
 rcases TJ i (xs.map fI).length with z | z
 . rw[TQ z,Sq] at e;cases q:xs[i]? with
   | none=>rw[q] at e;cases e
   | some x=>rw[q] at e;cases e;exact r.get q
 . rw[S8 z,Wb] at e;split at e<;>cases e
theorem BW{P:SP}{w:Tp}{K:Sy}{mg:Str->Option RZ}{base:SM}{N ps:List Str}{n:Nat}{qual:Str}{scope:XG}{f:Sl}{cd:RZ}{A:TP}{outer:List Env}{s s1:R8}{ρ :Ps}{p:PH}{R:RZ->R8->Prop}{us:List RZ}{xs:List PV}
  (S:vk N ps scope) (hd:A.handled=ox) (e0:JM P w K mg base A outer s ρ p) (hl:xs.length=ps.length) (hn:N.length=ps.length+n) (r:aB ρ s.heap xs us)
  (x:InCallC s s.heap.objs.size (bindL (Xl qual scope s.heap.objs.size f cd).kindOf (ps.zip us) λ_=>ox) (U0 (s.heap.objs.size+1) scope.names []) (bindC (Xl qual scope s.heap.objs.size f cd).kindOf (ps.zip us) λ_=>ox) s1) :
  Inv (wC P w K mg base N qual scope f cd A outer s ρ R) [] (xs.map fI++Sz n ox) ρ p s1/\Gr ρ s.heap ρ s1.heap:=by
 obtain⟨h1,tk,rfl,hk⟩:=x.done;have noA: ∀ b:Sl,b ∉ (wC P w K mg base N qual scope f cd A outer s ρ R).ex:=λb z=>absurd (show b∈([]:List Sl) from z) Sp;refine⟨⟨⟨e0.mod,S.kind,rfl,rfl,Si _,λy z c h1 h2=>?_,λy hy=>?_,λy c _ h=>?_,λ_=>hd,Around.frames_deeper e0.frames,.inr ⟨rfl,rfl⟩,λb z=>absurd z (noA b),e0.bs,e0.Nq,λb _ _=>noA b,λb z=>absurd z (noA b),e0.sf,e0.OC⟩,
  rfl,e0.bare,Un.kept hk,⟨_,x.toInCall.ns,λi y v h1 h2 h3=>?_⟩,λy c h=>⟨_,x.cell y c h⟩,e0.sim.fresh (Si _),λy c h=>?_,λq hq=>absurd (show q∈([]:List (Sl × Obj)) from hq) Sp,e0.sim.keep (Gr.kept hk) λb _=>hk b,?_⟩,Gr.kept hk⟩
 . exact name_of_addr x.apart (Vb h1) (Vb h2)
 . rcases(show scope.names.lookup y=fI .cell\/scope.names.lookup y=fI .free from hy) with hy | hy
   . exact wg hy
   . exact absurd rfl (S.Ni _ (Vb hy))
 . exact Vl (x.above y c (Vb h))
 . obtain⟨u,hu,ru⟩:=A5 r h2;have hi:i < ps.length:=by rw[<- hl,r.len];exact(RY.mp hu).1
   have hp:ps[i]?=fI y:=by rw[<- S.pre,List.getElem?_take_of_lt hi];exact h1
   have fk:ps.Nodup:=by rw[<- S.pre];exact S.nd.sublist (List.take_sublist _ _)
   refine⟨u,ru.up (Gr.kept hk),?_⟩;rcases S.par y (Se hp) with k | k
   . exact .inl ⟨k,tH fk hp hu k⟩
   . obtain⟨c,e⟩:=wg (n:=s.heap.objs.size+1) k;refine .inr ⟨.inl k,c,e,?_⟩;have q:=x.cell y c e;rw[tN fk hp hu (by show scope.names.lookup y≠_;rw[k];decide)] at q;exact q
 . exact e0.sim.fresh (Vl (x.above y c (Vb h)))
 . rw[Sj,xn,Zb,hl];exact hn.symm
structure Body(P:SP)(w:Tp)(K:Sy)(mg:Str->Option RZ)(base:SM)(pg:Tb)(N:List Str)(qual:Str)(st:XX)(d:Df):Prop where
 sc:vk N d.ps (bI st)
 len:N.length=d.ps.length+d.nl
 body: ∀(fa:Sl)(cdv:RZ)(A:TP)(outer:List Env)(s:R8)(ρ :Ps)(R:RZ->R8->Prop)(k:Nat),BS (wC P w K mg base N qual (bI st) fa cdv A outer s ρ R) pg k (fT st) d.body
theorem EE{P:SP}{w:Tp}{K:Sy}{mg:Str->Option RZ}{base:SM}{pg:Tb}{k:Nat}{x qual:Str}{st:XX}{fa:Sl}{fd:Vt}{N:List Str}{d:Df}{f:String}(F:Jw K x qual st fa fd)(B:Body P w K mg base pg N qual st d)(hd:pg.df f=fI d)
  (amb: ∀{cdv:RZ}{A:TP}{outer:List Env}{s:R8}{ρ :Ps}{R:RZ->R8->Prop},iV k (A.deeper (Xl qual (bI st) s.heap.objs.size fa cdv))->dz (wC P w K mg base N qual (bI st) fa cdv A outer s ρ R) pg k):uS P w K mg base (k+1) fa fd d.ps (run pg (k+1) f):=by
 intro A outer s ρ p args us xs R hr e0 hb r o;obtain⟨oc,od,kV,doc,pm,an,cdv,ct,osl,rfl,lk,hcd⟩:=F.ex;have S:=B.sc;rw[run,hd] at o;dsimp only at o;split at o
 . rename_i hlen;have KX:K.In s.heap:=e0.mod.Fn.keeps λb o e=>(e0.bs b o e).1;have lim:s.heap.NoLimit:=e0.mod.nolimit.keeps λb o e=>(e0.bs b o e).1;have yl: ∀ y∈d.ps.zip us,(bI st).names.lookup y.1=fI .local\/((bI st).names.lookup y.1=fI .cell/\((U0 (s.heap.objs.size+1) (bI st).names []).lookup y.1).isSome=true):=λy hy=>by
    rcases S.par y.1 (V4 (a:=y.1) (b:=y.2) hy).1 with q | q
    . exact .inl q
    . exact .inr ⟨q,Wq _ _ _ (.inl q)⟩
   refine codeAny_call_function hr.depth (KX _ _ lk) rfl S.co S.gen rfl (PySem.W.codeRec_of KX hcd) (hb _ _ _ _ ?_);refine wpAny_newFunctionEnv_cells S.kind yl λenv he s1 x=>?_;subst he;refine⟨lim.keeps x.toInCall.keep,codeAny_func ?_⟩;obtain⟨I,g0⟩:=BW (R:=λe s'=>R (.error e) s') S hr.hd e0 hlen B.len r x;have aft: ∀{v' ρ' p' s'},Inv (wC P w K mg base N qual (bI st) fa cdv A outer s ρ λe s'=>R (.error e) s') [] v' ρ' p' s'->After P w base outer ρ s p' ρ' s':=λJ=>⟨J.os,J.bare,J.base,J.sim⟩
   refine Ub ((B.body fa cdv A outer s ρ (λe s'=>R (.error e) s') k).h (Q:=λf s'=>match f with | .ret u=>R (.ok (.ret u)) s' | .next=>R (.ok (.ret .none)) s' | _=>False) (amb (hr.deeper _)) I ?_) (λfl s' hs=>?_) λe s' hs=>hs
   . revert o
     cases d.body (run pg k) (xs.map fI++Sz d.nl ox) p with
     | ok f p' =>
      cases f with
      | rt v=>exact λo e ρ' s' u _ J ru=>qN e0.sim o (aft J) ru
      | nx e=>exact λo ρ' s' _ J=>qN (v:= .non) e0.sim o (aft J) rfl
      | bk e=>exact λo=>o.elim
      | ct e=>exact λo=>o.elim
     | ex C us p'=>exact λo=>EG λe s' fl=>aa8 e0.sim o fl
     | no=>exact λo=>o.elim
   . cases fl with
     | ret u=>exact hs
     | next=>exact hs
     | _=>exact hs.elim
 . exact o.elim
end _P
end
section
open PySem PySem.W PyProof.Rows
namespace _A
open PySem PySem.W PySem.Calls PyProof.Rows
theorem pD: ∀ ns vs,WellAll P h vs (ns.map WData.int)->ZG vs ns:=by
 intro ns
 induction ns with
 | nil =>
  intro vs w
  cases w
  exact .nil
 | cons n ns ih =>
  intro vs w
  cases w with
  | cons a b =>
   cases a
   exact .cons _ _ (ih _ b)
theorem BX{l : WQ}(hn : l.most = fI n) 
    (hpre : l.row.toRowW.claim.pre args = true) (hwl : WellAll P h vals args) :
    ∃ a vs ns, vals = [TZ a] /\ args = [WData.list (ns.map WData.int)] /\ h.get? a = fI { cls := .type "list", data := .seq vs.toArray} /\ ZG vs ns /\ ns.length <= n := by
  have hsh : WShape.hasAll [] args _ = true := (pre_splitW hpre).1;have hc : l.pre.holds [] _ = true := (pre_splitW hpre).2;obtain ⟨d, r, rfl, h1, h2⟩ := hasAllW_cons hsh;obtain rfl := hasAllW_nil h2;obtain ⟨xs, rfl, h3⟩ := hasW_list h1;obtain ⟨ns, rfl⟩ := items_int h3;have hlen : ns.length <= n := by
    have h4 : (WTm.not (.lt (.lit (.int (n))) (.len (.arg 0)))).holds [] { args := [.list (ns.map .int)]} = true := by
      have h4 := (holds_andW hc).1;rw [hn] at h4;exact h4
    have h5 := condW_of h4 (w_not (w_lt w_lit (w_len_list (w_arg rfl))))
    first
      | (exact absurd h5 (by decide))
      | (simp at h5; omega)
  cases hwl with
  | cons w1 w2 =>
    cases w2
    cases w1 with
    | list ho hall => exact ⟨_, _, ns, rfl, rfl, ho, pD ns _ hall, hlen⟩
theorem Cb(l:WQ) args:l.row.toRowW.claim.post args (.bool true) args=true :=
 postW_of
  (show WShape.has [] _ .bool=true by first | rfl | decide | simp [WShape.arms])
  (show(WTm.eq .res _).value [] _=fI _ from w_eq_bool (w_res rfl) w_lit) rfl
theorem wY{l:WQ}{n:Nat}{q:SP}{loose:List Str}{XP:(Str->Option RZ)->SM->Prop}{YP:Tp->SM->Prop}{d:DefRec}
  (hn:l.most=fI n) (hdf:d.params.defaults=[])
  (call: ∀(w:Tp)(s₀ s₁ :R8)(mg mb:Str->Option RZ)(fa:Sl)(o:Obj)(pm cd doc:RZ)(a:Sl)(vs:List RZ)(ns:List Int),
   Ground q loose [] XP w s₀ mg mb s₁.heap->YP w s₁.heap ->
   s₁.heap.get? fa=fI o->o.data= .func (docDef d.name d.params d.body d.scope pm cd doc)->s₁.heap.CodeRec cd d.name->mg d.name=fI (.ref fa) ->
   s₁.heap.get? a=fI { cls:= .type "list",data:= .seq vs.toArray}->ZG vs ns->ns.length<=n->s₁.gens= #[] ->
   WJ (SN l.prog w) zF (.call (.ref fa) ⟨[.ref a],[]⟩) (λr s'=>r= .ok (.ret (.bool true))/\OldK s₁.heap s'.heap/\s'.os=s₁.os/\XK s'.gens) s₁) :
  Gk q loose XP YP l.row.toRowW d [] (λf vs=>Ig f vs):=by
 intro w s₀ s₁ mg mb G Y fa o pm cd doc dV kV ho hd hcd hD hmg hg args vals as hpre hlay hrd hwl hlo;obtain rfl:dV= .none:=Dflts.none hD hdf;obtain rfl:kV= .none:=Dflts.noKw hD;obtain⟨a,vs,ns,rfl,rfl,hobj,hints,hlen⟩:=BX hn hpre hwl;refine enter_call (codeAny_mono (call w s₀ s₁ mg mb fa o pm cd doc a vs ns G Y ho (fd_plain hd) hcd hmg hobj hints hlen hg) λr s' hq=>?_);obtain⟨rfl,h2,h3,h4⟩:=hq;exact⟨.inl ⟨.bool true,.bool true,[],rfl,λ_=>rfl,.bool true,Cb l _,λ_=>⟨List.Pairwise.nil,λ_ hm=>(by cases hm)⟩⟩,h2,h3,h4⟩
end _A
namespace _P
open PySem PySem.Spec PyProof.Rows _L
abbrev Args(x qual:Str)(st:XX)(ps:List Str):Prop:= ∀(kV doc pm:RZ)(an:Option Sl)(cdv ct:RZ)(us:List RZ),us.length=ps.length->Bd (VN x qual (ji st) (fT st) (bI st) .none kV doc pm an cdv ct) ⟨us,[]⟩=pure (ps.zip us)
structure aU(P:SP)(w:Tp)(K:Sy)(mg:Str->Option RZ)(pg:Tb)(f:String)(d:Df)(st:XX)(N:List Str):Prop where
 at_:At K mg (SO f) st
 bd:Args (SO f) (SO f) st d.ps
 body: ∀ base,Body P w K mg base pg N (SO f) st d
structure Nc(P:SP)(w:Tp)(K:Sy)(mg:Str->Option RZ)(base:SM)(pg:Tb)(fn c:String)(m:Str)(d:Df):Prop where
 no:pg.fns fn=ox
 ex: ∃(st:XX)(N:List Str),(∀ q,pg.adr c=fI q-> ∃ fa fd,Jw K m (SO fn) st fa fd/\Meth K q.1 m fa)/\Args m (SO fn) st d.ps/\Body P w K mg base pg N (SO fn) st d
structure Top(P:SP)(w:Tp)(K:Sy)(mg:Str->Option RZ)(pg:Tb):Prop where
 blt: ∀ x∈iO,mg x=ox
 con: ∀ x v,pg.con x=fI v-> ∃ u,mg x=fI u/\JC K v u
 xG: ∀ x kvs,pg.xG x=fI kvs-> ∃ a,mg x=fI (.ref a)/\KD P w K a kvs
 ct:NI K mg pg
 mg: ∀ base fn c m d,pg.P5 fn=fI (c,m,d)->Nc P w K mg base pg fn c m d
section
variable{P:SP}{w:Tp}{K:Sy}{mg:Str->Option RZ}{base:SM}{pg:Tb}
theorem FV{k:Nat}{f:String}{d:Df}(hf:pg.df f=fI d){xs:List PV}{p:PH}(h:run pg k f xs p≠ .no):xs.length=d.ps.length:=by
 cases k with
 | zero=>exact absurd rfl h
 | succ k =>
  rw[run,hf] at h
  dsimp only at h
  split at h
  . assumption
  . exact absurd rfl h
theorem B9(T:Top P w K mg pg)(G: ∀ f d,pg.fns f=fI d-> ∃ st N,aU P w K mg pg f d st N): ∀ k,(∀ f d,pg.fns f=fI d->IU P w K mg base (SO f) k d.ps (run pg k f))/\ ∀ j,j<=k->Ph P w K mg base pg j:=by
 intro k
 induction k with
 | zero =>
  refine⟨λf d hf=>?_,λj hj fn c m d hm=>?_⟩
  . obtain⟨st,N,⟨fa,fd,F,hg⟩,hb,_⟩:=G f d hf;exact⟨fa,fd,λ_ _ _ _ _ _ _ _ _ _ _ _ _ o=>o.elim,hg,F.kp,F.binds hb,λxs p h=>absurd rfl h⟩
  . obtain⟨no,st,N,a,hb,_⟩:=T.mg base fn c m d hm;refine⟨no,λq hq=>?_⟩;obtain⟨fa,fd,F,me⟩:=a q hq;cases Nat.le_zero.mp hj;exact⟨fa,fd,me,λ_ _ _ _ _ _ _ _ _ _ _ _ _ o=>o.elim,F.binds hb⟩
 | succ k ih =>
  have amb: ∀{N:List Str}{qual:Str}{scope:XG}{fa:Sl}{cdv:RZ}{A:TP}{outer:List Env}{s:R8}{ρ :Ps}{R:RZ->R8->Prop},iV k (A.deeper (Xl qual scope s.heap.objs.size fa cdv))->dz (wC P w K mg base N qual scope fa cdv A outer s ρ R) pg k:=λhr=>⟨hr,rfl,⟨_,_,_,rfl,rfl,rfl⟩,ih.1,T.blt,T.con,T.xG,T.ct,ih.2⟩
  refine⟨λf d hf=>?_,λj hj fn c m d hm=>?_⟩
  . obtain⟨st,N,⟨fa,fd,F,hg⟩,hb,B⟩:=G f d hf;exact⟨fa,fd,EE F (B base) (Aq hf) amb,hg,F.kp,F.binds hb,λxs p h=>FV (Aq hf) h⟩
  . rcases Nat.lt_or_eq_of_le hj with z | z
    . exact ih.2 j (Nat.le_of_lt_succ z) fn c m d hm
    . subst z;obtain⟨no,st,N,a,hb,B⟩:=T.mg base fn c m d hm;refine⟨no,λq hq=>?_⟩;obtain⟨fa,fd,F,me⟩:=a q hq;exact⟨fa,fd,me,EE F B (by unfold Tb.df;rw[no,hm];rfl) amb,F.binds hb⟩
theorem Fs{fnT:List (String × Df)}(hf:pg.fns=λf=>(fnT.find? λp=>p.1 == f).map (·.2))(h: ∀ p∈fnT,∃ st N,aU P w K mg pg p.1 p.2 st N): ∀ f d,pg.fns f=fI d-> ∃ st N,aU P w K mg pg f d st N:=λf d e=>by
 rw[hf] at e;dsimp only at e;cases q:fnT.find? λp=>p.1 == f with
 | none=>rw[q] at e;cases e
 | some p =>
  rw[q] at e
  cases e
  obtain⟨st,N,g⟩:=h p (XC q)
  have:p.1=f:=by simpa using WY q
  rw[<- this]
  exact⟨st,N,g⟩
theorem Lv{k:Nat}{d:Df}{st:XX}{N:List Str}{fa:Sl}{x:Str}(T:Top P w K mg pg)(G: ∀ f d,pg.fns f=fI d-> ∃ st N,aU P w K mg pg f d st N)(hf:pg.fns "law" =fI d)(hx:d.ps=[x])(g:aU P w K mg pg "law" d st N)(hfa:mg "law" =fI (.ref fa)) :
  ∃ fd:Vt,(∀(s:R8)(v:RZ),ZH s fd ⟨[v],[]⟩ [(x,v)])/\ ∀ base:SM,uS P w K mg base (k+1) fa fd [x] (run pg (k+1) "law"):=by
 obtain⟨f,fd,F,hm⟩:=g.at_;cases hfa.symm.trans hm;refine⟨fd,λs v=>?_,λbase=>?_⟩
 . have:=F.binds g.bd;obtain⟨oc,od,kV,doc,pm,an,cdv,ct,osl,rfl,lk,hcd⟩:=F.ex;have:=g.bd kV doc pm an cdv ct [v] (by rw[hx];rfl);rw[hx] at this;exact .of_eq this
 . have tbl:=B9 (base:=base) T G k;have:=EE (k:=k) F (g.body base) (Aq hf) λ{cdv A outer s ρ R} hr=>⟨hr,rfl,⟨_,_,_,rfl,rfl,rfl⟩,tbl.1,T.blt,T.con,T.xG,T.ct,tbl.2⟩
   rw[hx] at this;exact this
theorem wD{α β :Type}[DecidableEq α]{l:List (α × β)}{x: α}{v: β}{P: α -> β ->Prop}(h: ∀ p∈l,P p.1 p.2)(e:(l.find? λp=>decide (p.1=x)).map (·.2)=fI v):P x v:=by
 cases q:l.find? λp=>decide (p.1=x) with
 | none=>rw[q] at e;cases e
 | some p =>
  rw[q] at e
  cases e
  have:p.1=x:=by simpa using WY q
  rw[<- this]
  exact h p (XC q)
theorem IE{conT:List (Str × PV)}(hc:pg.con=λx=>(conT.find? λp=>decide (p.1=x)).map (·.2))(h: ∀ p∈conT,∃ u,mg p.1=fI u/\JC K p.2 u): ∀ x v,pg.con x=fI v-> ∃ u,mg x=fI u/\JC K v u:=λx v e=>by
 rw[hc] at e;exact wD (P:=λx v=> ∃ u,mg x=fI u/\JC K v u) h e
theorem GO{dcT:List (Str × List (Key × PV))}(hc:pg.xG=λx=>(dcT.find? λp=>decide (p.1=x)).map (·.2))(h: ∀ p∈dcT,∃ a,mg p.1=fI (.ref a)/\KD P w K a p.2): ∀ x kvs,pg.xG x=fI kvs-> ∃ a,mg x=fI (.ref a)/\KD P w K a kvs:=λx v e=>by
 rw[hc] at e;exact wD (P:=λx v=> ∃ a,mg x=fI (.ref a)/\KD P w K a v) h e
inductive CV:PV->RZ->Prop where
 | int (i:Int) (t:Tok):CV (.int i) (.int i t)
 | str (x:Str) (t:Tok):CV (.str x) (.str x t)
theorem CV.r{x:PV}{u:RZ}(c:CV x u)(ρ :Ps)(h:SM):rel ρ h x u:=by
 cases c with
 | int i t=>exact⟨t,rfl⟩
 | str z t=>exact⟨t,rfl⟩
theorem CV.rs{xs:List PV}{us:List RZ}(c:UX CV xs us)(ρ :Ps)(h:SM):aB ρ h xs us:=by
 induction c with
 | nil=>exact .nil
 | cons a _ ih=>exact .cons (a.r ρ h) ih
theorem vw{x:Str}{v:PV}{u:RZ}(hm:mg x=fI u)(c:CV v u): ∃ u,mg x=fI u/\JC K v u:=⟨u,hm,fun ρ h _ _=>c.r ρ h,λa e=>by subst e;cases c⟩
theorem Di{a:Sl}{d:Option Sl}{us:List RZ}{n:Nat}{sl:Array (Option RZ)}{xs:List PV}(hl:K.lookup a=fI ⟨.type "tuple",d,.seq us.toArray n,sl⟩)(hz:us.length<=sizeLine)(c:UX CV xs us)(ρ :Ps)(h:SM)(k:K.In h)(pv:Pv K ρ):rel ρ h (.ktup xs) (.ref a) :=
 ⟨a,us,rfl,CV.rs c ρ h,⟨hz,λm=>by rw[pv a m] at hl;cases hl⟩,_,k _ _ hl,rfl,n,rfl⟩
theorem Ad{x:Str}{a:Sl}{us:List RZ}{n:Nat}{sl:Array (Option RZ)}{xs:List PV}(hm:mg x=fI (.ref a))(hl:K.lookup a=fI ⟨.type "tuple",ox,.seq us.toArray n,sl⟩)(hz:us.length<=sizeLine)(c:UX CV xs us): ∃ u,mg x=fI u/\JC K (.ktup xs) u :=
 ⟨_,hm,Di hl hz c,λb e=>by cases e;exact⟨_,hl,rfl,rfl⟩⟩
def DV(K:Sy)(x:PV)(u:RZ):Prop:= ∀ ρ h,K.In h->Pv K ρ ->rel ρ h x u
theorem AI{x:PV}{u:RZ}(c:CV x u):DV K x u:=fun ρ h _ _=>c.r ρ h
theorem DK{a:Sl}{d:Option Sl}{us:List RZ}{n:Nat}{sl:Array (Option RZ)}{xs:List PV}(hl:K.lookup a=fI ⟨.type "tuple",d,.seq us.toArray n,sl⟩)(hz:us.length<=sizeLine)(c:UX CV xs us):DV K (.ktup xs) (.ref a):=Di hl hz c
theorem RQ{ls:List (Str × Tok × RZ)}{kvs:List (Key × PV)}(c:UX (λ(p:Key × PV) (l:Str × Tok × RZ)=>p.1= .inr l.1/\DV K p.2 l.2.2) kvs ls)(ρ :Ps)(h:SM)(k:K.In h)(pv:Pv K ρ):RK ρ h kvs (ls.map λp=>((V1 p.1:Key),p.2.2)):=by
 induction c with
 | nil=>exact .nil
 | cons a _ ih=>exact .cons ⟨a.1,a.2 ρ h k pv⟩ ih
end
section
variable{P:SP}{w:Tp}{K:Sy}{mg mb:Str->Option RZ}{k:Nat}{fa a:Sl}{fd:Vt}{x:Str}{sem:List PV->PH->RV PV}{s₁ :R8}{vs:List RZ}{ns:List Int}
theorem D7(KX:K.In s₁.heap)(hns:s₁.heap.Ns UI mg)(hb:s₁.heap.Ns builtinsNs mb)(hbb: ∀ x:Str,x≠ "__name__" ->mb x=Wj x)(hlim:s₁.heap.NoLimit)(hg:s₁.gens= #[])
  (ha:s₁.heap.get? a=fI { cls:= .type "list",data:= .seq vs.toArray}) (hi:ZG vs ns) (hl:ns.length<=sizeLine) (hr:iV k zF) (F:uS P w K mg s₁.heap k fa fd [x] sem) (hbind: ∀(s:R8)(u:RZ),ZH s fd ⟨[u],[]⟩ [(x,u)])
  (hs:Ok (sem [.ref 0] [.fro (ns.map PV.int)]) λv _=>v= .bl true) :
  WJ (SN P w) zF (.call (.ref fa) ⟨[.ref a],[]⟩) (λr s'=>r= .ok (.ret (.bool true))/\OldK s₁.heap s'.heap/\s'.os=s₁.os/\XK s'.gens) s₁ :=by
 obtain⟨v,p',e,rfl⟩:=hs;have noT: ∀ b,¬ dF ⟨[(a,ox)],[]⟩ b:=λb ⟨q,m,e,he,_⟩=>by rw[Sf.mp m] at he;cases he
 have sm:hX P w s₁.heap ⟨[(a,ox)],[]⟩ [.fro (ns.map PV.int)] s₁.heap:=⟨rfl,λi j o q r e f e1 m e2 h1=>(noT e ⟨q,Se e2,e,h1,.inr rfl⟩).elim,λi o q e1 e2=>(by
  cases i with
  | zero=>cases e1;cases e2;exact⟨rfl,vs,aB.ints ns hi,by rw[hi.length];exact hl,_,_,ha,rfl,rfl,rfl⟩
  | succ i=>cases e1),λ_ m=>(Sp m).elim,λ_ m=>(Sp m).elim⟩
 refine F zF [] s₁ ⟨[(a,ox)],[]⟩ [.fro (ns.map PV.int)] ⟨[.ref a],[]⟩ [.ref a] [.ref 0] _ hr ⟨rfl,⟨KX,hns,⟨mb,hb,hbb⟩,hlim⟩,λb o e=>⟨e,noT b⟩,Si _,trivial,λb hb=>absurd (show b∈([]:List Sl) from hb) Sp,sm,.of_eq hg⟩ (hbind s₁ (.ref a)) (.one ⟨(a,ox),rfl,rfl⟩) ?_;rw[e];intro ρ' s' u A r;exact⟨by rw[show u= .bool true from r],OldK.of_keep λb o e=>A.un.keep b o e (noT b) (show b ∉ ([]:List Sl) from Sp) Sp,A.os,A.bare⟩
theorem Ho{l:WQ}{n k:Nat}{q:SP}{loose:List Str}{XP:(Str->Option RZ)->SM->Prop}{YP:Tp->SM->Prop}{d:DefRec}{K:Params->Sy}{sem:List PV->PH->RV PV}{x:Str}
  (hn:l.most=fI n) (hn2:n<=sizeLine) (hdf:d.params.defaults=[]) (hr:iV k zF) (hY: ∀(w:Tp)(h:SM),YP w h->(K w.params).In h)
  (F: ∀(w:Tp)(mg:Str->Option RZ)(fa:Sl)(h:SM),(K w.params).In h->h.Ns UI mg->mg d.name=fI (.ref fa)-> ∃ fd:Vt,(∀(s:R8)(u:RZ),ZH s fd ⟨[u],[]⟩ [(x,u)])/\ ∀ base:SM,uS l.prog w (K w.params) mg base k fa fd [x] sem)
  (hs: ∀ ns:List Int,ns.length<=n->Ok (sem [.ref 0] [.fro (ns.map PV.int)]) λv _=>v= .bl true):Gk q loose XP YP l.row.toRowW d [] (λf vs=>Ig f vs):=by
 refine _A.wY hn hdf λw s₀ s₁ mg mb fa o pm cd doc a vs ns G Y ho hd hcd hmg hobj hints hlen hg=>?_;have KX:=hY w _ Y;obtain⟨fd,hb,hF⟩:=F w mg fa _ KX G.T.g hmg;exact D7 KX G.T.g G.T.b G.T.builtins G.T.nolimit hg hobj hints (Sx hlen hn2) hr (hF _) hb (hs ns hlen)
end
end _P
end
section
open PySem PySem.W PyProof.Rows
namespace _L
open PySem PySem.Spec PyProof.Rows
theorem aau{env:Env}{names:List (Str × Wh)} :
  (names.map λ(n,k)=>if (k == VW&&env.scope.kind == .function&&env.kindOf n == fI .cell) then(n,VX) else(n,k)).lookup x =
   (names.lookup x).map λk=>if (k == VW&&env.scope.kind == .function&&env.kindOf x == fI .cell) then VX else k:=by
 rw[<- kW (λn k=>if (k == VW&&env.scope.kind == .function&&env.kindOf n == fI .cell) then VX else k) x names];congr 2
 funext p
 show(if _ then _ else _)=_;split<;>rename_i z<;>simp[z]
theorem mD: ∀(names:List (Str × Wh)) acc,(∀ p∈names,p.2= .free-> ∃ c,env.cells.lookup p.1=fI c) ->
  ∃ cl,(forIn names acc λ(x:Str × Wh) (r)=>(match x with | (name,kind)=>if (kind == VW)=true then do let a <- cellOf env name;pure (Vu ((name,a)::r)) else pure (Vu r)))=pure cl /\
   (∀ p∈cl,p∈acc\/env.cells.lookup p.1=fI p.2)/\(∀ p∈acc,p∈cl)/\ ∀ p∈names,p.2= .free-> ∃ c,(p.1,c)∈cl
 | [],acc,_=>⟨acc,rfl,λp h=> .inl h,λp h=>h,λp h=>by cases h⟩
 | (n,k)::r,acc,h=>by
  by_cases hk:(k == VW)=true
  . obtain⟨c,hc⟩:=h (n,k) So (by simpa using hk);obtain⟨cl,e,h1,h2,h3⟩:=mD r ((n,c)::acc) λp hp=>h p (Sk _ hp);refine⟨cl,?_,λp hp=>?_,λp hp=>h2 p (Sk _ hp),λp hp hf=>?_⟩
    . rw[Ui];have z:cellOf env n=pure c:=by unfold cellOf;have hc':=hc;rw[hc']
      simp only[hk,z];exact e
    . rcases h1 p hp with q | q
      . rcases Sd.mp q with q | q
        . exact .inr (by rw[q];exact hc)
        . exact .inl q
      . exact .inr q
    . rcases Sd.mp hp with q | q
      . exact⟨c,by rw[q];exact h2 _ So⟩
      . exact h3 p q hf
  . obtain⟨cl,e,h1,h2,h3⟩:=mD r acc λp hp=>h p (Sk _ hp);refine⟨cl,?_,h1,h2,λp hp hf=>?_⟩
    . rw[Ui];simp only[if_neg hk];exact e
    . rcases Sd.mp hp with q | q
      . rw[q] at hf;exact absurd (by simpa using hf) hk
      . exact h3 p q hf
theorem rP(h: ∀ p∈scope.names,p.2= .free-> ∃ c,env.cells.lookup p.1=fI c) :
  ∃ cl,closureFor scope env=pure cl/\(∀ x c,cl.lookup x=fI c->env.cells.lookup x=fI c)/\ ∀ x,scope.names.lookup x=fI .free-> ∃ c,cl.lookup x=fI c:=by
 obtain⟨cl,e,h1,_,h3⟩:=mD _ [] h;refine⟨cl,?_,λx c q=>?_,λx q=>?_⟩
 . show(forIn _ ([]) _ >>= λr=>pure r)=_
   erw [e]
   rfl
 . rcases h1 _ (lookup_mem q) with z | z
   . cases z
   . exact z
 . obtain⟨c,q'⟩:=h3 _ (lookup_mem q) rfl;exact gR q'
theorem yG: ∀ names(h:SM) acc x c,(U0 h.objs.size names acc).lookup x=fI c ->
  ((x,VX) ∉ names/\acc.lookup x=fI c)\/((x,VX)∈names/\h.objs.size<=c/\(Yv h names).IsCell c ox)
 | [],_,_,_,_,e=> .inl ⟨λz=>(by cases z),e⟩
 | (name,kind)::r,h,acc,x,c,e=>by
  unfold U0 at e;unfold Yv;split at e
  . rename_i hk;have hk':kind= .cell:=by simpa using hk
    subst hk';have hz:(h.push { cls:= .type "cell",data:= .cell ox}).objs.size=h.objs.size+1:=TL ..;rw[<- hz] at e;rcases yG r _ _ x c e with⟨n,q⟩ | ⟨m,le,q⟩
    . rw[UM] at q;cases hx:x == name with
      | true =>
       rw[hx] at q
       cases q
       rw[show x=name by simpa using hx]
       exact .inr ⟨So,Si _,_,Y4 _ _ _ _ (Sv _ rfl),rfl⟩
      | false =>
       simp_all
    . exact .inr ⟨Sk _ m,by rw[hz] at le;exact Wr le,q⟩
  . rename_i hk;rw[if_neg hk];rcases yG r h acc x c e with⟨n,q⟩ | ⟨m,q⟩
    . refine .inl ⟨λz=>?_,q⟩;rcases Sd.mp z with w | w
      . simp_all
      . exact n w
    . exact .inr ⟨Sk _ m,q⟩
theorem si{M:Model}{A:TP}{E:RZ->R8->Prop}{s:R8}{scope:XG}{globals:Sl}{cl:List (Str × Sl)}{qual:Str}{outer:Env}{Q:Env->R8->Prop}
  (h:Q { scope:=scope,locals:=s.heap.objs.size,globals:=globals,cells:=U0 (s.heap.objs.size+1) scope.names cl,qual:=qual,func:=ox,code:=outer.code,frame:=outer.frame,builtins:=outer.builtins}
   { s with heap:=Yv (s.heap.push { cls:= .type "dict",data:= .dict #[]}) scope.names}):SD M A (Zp scope globals cl [] qual ox .none (fI outer)) Q E s:=by
 simp only[Zp,Option.isSome_some,if_true];refine mh (wpAny_alloc (mh (wpAny_layCells _ (λname kind cells=>by rfl) _ _ _ _ ?_)));rw[show({ s with heap:=s.heap.push _}:R8).heap.objs.size=s.heap.objs.size+1 from TL ..];exact mh (by exact Sg (Sg h))
noncomputable def aa4(cs:List Tr) v :=
 forIn cs true λc r=>if r=true then(isTrue c v (Wm c v) >>= λok=>pure (Vu ok)) else pure (Vu r)
def zI M A v e acc X (D:R8->Prop):=λok u=>if ok=true then
  SD M A (Wm e v) (λx u1=>SD M A (call (.builtin "list.append") [acc,x]) (λ_ u2=>D u2) X u1) X u
 else D u
def Mq M A v tg e cs it acc X D i u :=
 SD M A (WX tg it i) (λ_ u1=>SD M A (XZ tg v i) (λ_ u2=>SD M A (aa4 cs v) (zI M A v e acc X D) X u2) X u1) X u
theorem ql{prog:SP}{w:Tp}{A:TP}{R:vD->R8->Prop}{s:R8}{elt target iter:Tr}{ifs:List Tr}{scope:XG}{pos:Pos}{it acc:RZ}{env:Env}(I:Nat->R8->Prop)
  (turn: ∀ k u,I k u->SD (SN prog w) A (X4 it) (λr u1=>match r with
   | none=>R (.ok .next) u1
   | some i=>Mq (SN prog w) A env target elt ifs it acc (notedBy (SN prog w) A env λe s'=>R (.error e) s') (λu2=> ∃ m,m < k/\I m u2) i u1) (notedBy (SN prog w) A env λe s'=>R (.error e) s') u)
  (n:Nat) (h:I n s):WJ (SN prog w) A (.compLoop (.ListComp elt [⟨target,iter,ifs,0⟩] scope pos) 0 it acc env) R s:=by
 refine codeAny_loop rfl I (λk u hu=>wpAny_noted ?_) n h;rw[compTurn_list];refine mh (ZU (mh (Ub (turn k u hu) (λr u1 g=>?_) λ_ _ z=>z)))
 match r,g with
 | none,g=>exact Sg g
 | some i,g =>
  refine mh (Ub g (λ_ _ g=>mh (Ub g (λ_ _ g=>mh (Ub g (λok u4 g=>?_) λ_ _ z=>z)) λ_ _ z=>z)) λ_ _ z=>z)
  match ok,g with
  | false,g=>exact Sg (Yx rfl g)
  | true,g=>exact mh (mh (Ub g (λ_ _ g=>mh (Ub g (λ_ _ g=>Sg (Sg (Yx rfl g))) λ_ _ z=>z)) λ_ _ z=>z))
end _L
namespace _P
open PySem PySem.Spec PyProof.Rows _L
noncomputable def CE(X:Cx)(vars:List Str)(scope:XG)(cl:List (Str × Sl))(C:Sl)(s₀ :R8)(ρ₀ :Ps)(ex:List Sl)(pn:List (Sl × Obj))(E:RZ->R8->Prop):Cx :=
 { X with N:=lE X.N vars,env:=VI scope cl C X.env,s₀ :=s₀, ρ₀ := ρ₀,outer:=X.stack,ex:=ex,fn:=λx=>scope.names.lookup x == fI .cell,pn:=pn,xe:=E}
section
variable {X:Cx} {pins:List (Sl × Obj)} {v:ay} {ρ :Ps} {p:PH} {s:R8} {scope:XG} {vars:List Str} {cl:List (Str × Sl)}
theorem kn(h:mW scope.names X.env.scope.names X.N vars=true): ∀ p∈scope.names,(p.2= .cell->scope.names.lookup p.1=fI .cell)∧(p.2= .free->X.env.kindOf p.1=fI .cell∨X.env.kindOf p.1=fI .free)∧(p.2= .local->scope.names.lookup p.1=fI .local):=by
 intro p hp;unfold mW at h;simp only[Sr,WG] at h;have q:=h.1.1 p hp;simp only[V2,bne_iff_ne,ne_eq,beq_iff_eq] at q;exact⟨λe=>q.1.1.resolve_left λz=>z e,λe=>q.1.2.resolve_left λz=>z e,λe=>q.2.resolve_left λz=>z e⟩
theorem L3(h:mW scope.names X.env.scope.names X.N vars=true): ∀ n∈X.N,¬ n∈vars->scope.names.lookup n≠fI .local/\scope.names.lookup n≠fI .cell:=by
 intro n hn hv;unfold mW at h;simp only[Sr,WG] at h;have q:=h.1.2 n hn;simp only[V2,Sr,bne_iff_ne,ne_eq,List.contains_iff_mem] at q;exact q.resolve_left hv
theorem Bn(h:mW scope.names X.env.scope.names X.N vars=true): ∀ n∈vars,scope.names.lookup (mask n)=ox:=by
 intro n hn;unfold mW at h;simp only[Sr,WG] at h;simpa using h.2 n hn
theorem vQ{C:Sl}{x:Str}:(VI scope cl C X.env).kindOf x=(scope.names.lookup x).map λk=>if (k == VW&&X.env.scope.kind == .function&&X.env.kindOf x == fI .cell) then VX else k:=aau
theorem iM{C:Sl}{x:Str}{kd:Wh}(h:(VI scope cl C X.env).kindOf x=fI kd):scope.names.lookup x=fI kd\/(scope.names.lookup x=fI .free/\kd= .cell):=by
 rw[vQ] at h;cases q:scope.names.lookup x with
 | none=>rw[q] at h;cases h
 | some k0 =>
  rw[q] at h
  have h:=SY h
  dsimp only at h
  split at h
  . rename_i c;have c:=(SU.mp (SU.mp c).1).1;rw[beq_iff_eq.mp c];exact .inr ⟨rfl,h.symm⟩
  . rw[h];exact .inl rfl
theorem Inv.CE{E:RZ->R8->Prop}{C:Sl}{h':SM}{t':Nat}{m':Str->Option RZ}{fp:List Sl}(I:Inv X pins v ρ p s)(yl:scope.kind= .function)(hlc:mW scope.names X.env.scope.names X.N vars=true)
  (hc1: ∀ x c,cl.lookup x=fI c->(scope.names.lookup x≠fI .cell/\X.env.cells.lookup x=fI c)\/(scope.names.lookup x=fI .cell/\s.heap.objs.size<=c/\h'.IsCell c ox)) (hc2: ∀ x,scope.names.lookup x=fI .free\/scope.names.lookup x=fI .cell-> ∃ c,cl.lookup x=fI c)
  (hci: ∀ x y c,cl.lookup x=fI c->cl.lookup y=fI c->s.heap.objs.size<=c->x=y)
  (hfp: ∀ b∈fp,jC X pins ρ b) (hfo: ∀ b∈fp,∃ o,s.heap.get? b=fI o) (hC:s.heap.objs.size<=C) (hn:h'.Ns C m') (k: ∀ b o,s.heap.get? b=fI o->h'.get? b=fI o) :
  Inv (CE X vars scope cl C s ρ fp (X.pn++pins) E) [] (v++Sz vars.length ox) ρ p { s with heap:=h',toks:=t'}:=by
 have FC: ∀{b},b∈fp->(b∈X.ex\/X.s₀.heap.objs.size<=b)/\b≠X.env.locals/\(∀ x c,X.env.cells.lookup x=fI c->c≠b)/\ ∀ q∈X.pn++pins,q.1≠b:=λhb=>(hfp _ hb).2.2 _ (Sf.mpr rfl);have fC:=I.sim.fresh hC;refine⟨⟨I.ok.mod,yl,I.ok.glob,I.ok.blt,hC,?inj,?has,?PW,I.ok.hd,I.ok.frames,.inl rfl,?QZ,I.bs,Sx I.ok.Nq I.sz,?Cg,?EX,I.stack,I.nH⟩,rfl,I.bare,Un.kept k,⟨m',hn,?loc⟩,?cell,fC,λx c e=>(hc1 x c e).elim (λz=>I.oU x c z.2) (λz=>I.sim.fresh z.2.1),?pin,I.sim.keep (Gr.kept k) λb _=>k b,?len⟩
 case inj =>
  intro x y c e1 e2
  rcases hc1 x c e1 with z | z
  . rcases hc1 y c e2 with w | w
    . exact I.ok.inj x y c z.2 w.2
    . obtain⟨_,q⟩:=I.cell x c z.2;exact absurd q.lt (Uq.mpr w.2.1)
  . exact hci x y c e1 e2 z.2.1
 case has =>
  intro x hx
  rcases hx with hx | hx
  . rcases iM hx with z | z
    . exact hc2 x (.inr z)
    . exact hc2 x (.inl z.1)
  . rcases iM hx with z | z
    . exact hc2 x (.inl z)
    . cases z.2
 case PW =>
  intro x c hx e
  rcases hc1 x c e with z | z
  . exact absurd (beq_iff_eq.mp hx) z.1
  . exact z.2.1
 case QZ =>
  intro b hb
  obtain⟨o,e⟩:=hfo b hb
  exact⟨SW (SK (Su e) hC),λx c e' z=>(hc1 x c e').elim (λw=>(FC hb).2.2.1 x c w.2 z) λw=>absurd (Su e) (Uq.mpr (z ▸ w.2.1))⟩
 case Cg =>
  intro b o e hb
  rcases(FC hb).1 with z | z
  . exact I.ok.Cg b o e z
  . exact absurd (Su (I.ok.bs b o e).1) (Uq.mpr z)
 case EX =>
  intro b hb z
  rcases Sd.mp (I.j6 b z) with q | q
  . exact(FC hb).2.1 q
  . exact(hfp b hb).2.1 q
 case loc =>
  intro i x w e1 e2 e3
  have e1':(lE X.N vars)[i]?=fI x:=e1
  rcases TJ i v.length with hi | hi
  . rw[TQ hi] at e2;unfold lE at e1';rw[TQ (by rw[xn,<- I.len];exact hi),Sq] at e1';cases q:X.N[i]? with
    | none=>rw[q] at e1';cases e1'
    | some n =>
     rw[q] at e1'
     have e1'':(if vars.contains n=true then mask n else n)=x:=SY e1'
     have e3':(VI scope cl C X.env).kindOf x=fI .local\/(VI scope cl C X.env).kindOf x=fI .cell\/(VI scope cl C X.env).kindOf x=fI .free:=e3
     by_cases hv:n∈vars
     . rw[if_pos (by simpa using hv)] at e1'';have:=Bn (X:=X) hlc n hv;rw[vQ,<- e1'',this] at e3';rcases e3' with z | z | z<;>cases z
     . rw[if_neg (by simpa using hv)] at e1'';subst e1'';have nl:=L3 (X:=X) hlc n (Se q) hv;have fr:scope.names.lookup n=fI .free/\((VI scope cl C X.env).kindOf n=fI .cell\/(VI scope cl C X.env).kindOf n=fI .free):=by
        rcases e3' with z | z | z
        . rcases iM z with y | y
          . exact absurd y nl.1
          . cases y.2
        . rcases iM z with y | y
          . exact absurd y nl.2
          . exact⟨y.1,.inl z⟩
        . rcases iM z with y | y
          . exact⟨y,.inr z⟩
          . cases y.2
       have kk:=(kn (X:=X) hlc _ (lookup_mem fr.1)).2.1 rfl;obtain⟨m,_,hl⟩:=I.loc;obtain⟨u,r,look⟩:=hl i n w q e2 (.inr kk);obtain⟨c,hcl⟩:=hc2 n (.inl fr.1);have hco:X.env.cells.lookup n=fI c:=(hc1 n c hcl).elim (·.2) (λw=>by rw[fr.1] at w;cases w.1)
       rcases look with⟨y,_⟩ | ⟨_,c',hc',o,ho,hd⟩
       . rcases kk with w | w<;>(rw[w] at y;cases y)
       . rw[hco] at hc';cases hc';exact⟨u,r.up (Gr.kept k),.inr ⟨fr.2,c,hcl,o,k c o ho,hd⟩⟩
  . rw[S8 hi,Wb] at e2;split at e2<;>cases e2
 case cell =>
  intro x c e
  rcases hc1 x c e with z | z
  . obtain⟨v,o,ho,hd⟩:=I.cell x c z.2;exact⟨v,o,k c o ho,hd⟩
  . exact⟨ox,z.2.2⟩
 case pin =>
  intro q hq
  have hq':q∈X.pn++pins:=(Ti.mp hq).elim id λz=>absurd z Sp
  obtain⟨e,n,ne,nf,d⟩:=I.pin q hq'
  exact⟨k _ _ e,n,SW (SK (Su e) hC),λz=>(Sd.mp (I.j6 q.1 z)).elim ne nf,d⟩
 case len =>
  show(v++Sz vars.length ox).length=(lE X.N vars).length
  unfold lE
  rw[Sj,Sj,xn,Zb,I.len]
theorem dz.CE{pg:Tb}{k:Nat}(A:dz X pg k){C:Sl}{s₀ :R8}{ρ₀ :Ps}{ex:List Sl}{pn:List (Sl × Obj)}{E:RZ->R8->Prop}:dz (CE X vars scope cl C s₀ ρ₀ ex pn E) pg k:=⟨A.room,A.calm,A.own,A.defs,A.blt,A.con,A.xG,A.ct,A.mt⟩
end
theorem Out.RF{X:Cx}{α β :Type}{R: β ->PH->Prop}{R': α ->PH->Prop}{f: α ->PH->RV β}: ∀{r:RV α},Out X R (r.bind f)->(∀ a p,r= .ok a p->Out X R (f a p)->R' a p)->Out X R' r
 | .ok a p,o,k=>k a p rfl o
 | .ex _ _ _,o,_=>o
 | .no,o,_=>o
theorem Out.ctx{X Y:Cx}{α :Type}{R: α ->PH->Prop}(k: ∀ C us p,Lh X C us p->Lh Y C us p): ∀{r:RV α},Out X R r->Out Y R r
 | .ok _ _,o=>o
 | .ex C us p,o=>k C us p o
 | .no,o=>o
def GP(n:Nat)(g:MG):Prop:= ∀{x e p e' p'},g x e p= .ok e' p'-> ∀ j,j < n->e'[j]?=e[j]?
def PU(n:Nat)(g:List PV->ay->PH->RV ay):Prop:= ∀{xs e p e' p'},g xs e p= .ok e' p'-> ∀ j,j < n->e'[j]?=e[j]?
theorem ku{n i:Nat}(h:ZK n i=true):GP n (gN i):=λz j hj=>by cases z;exact Te (TB (SK hj (Uh h)))
theorem AL{n:Nat}:PU n bN:=λ{xs _ _ _ _} z j _=>by
 cases xs with
 | nil=>cases z;rfl
 | cons=>cases z
theorem nv{n:Nat}{g:MG}{gs:List PV->ay->PH->RV ay}(a:GP n g)(b:PU n gs):PU n (ax g gs):=λ{xs _ _ _ _} z j hj=>by
 cases xs with
 | nil=>cases z
 | cons x t =>
  obtain⟨e1,p1,z1,z2⟩:=bind_eq.mp z
  exact(b z2 j hj).trans (a z1 j hj)
theorem CU{n m:Nat}{gs:List PV->ay->PH->RV ay}(b:PU n gs):GP n (gT m gs):=λz j hj=>by
 unfold gT at z;split at z
 . split at z
   . exact b z j hj
   . cases z
 . cases z
def LB(X:Cx)(pg:Tb)(k:Nat)(vars:List Str)(scope:XG)(tg:Tr)(g:MG)(ifs:List Tr)(mt:MT)(e:Tr)(ma:ME):Prop:= ∀ cl C s₀ ρ₀ ex pn E,JG (CE X vars scope cl C s₀ ρ₀ ex pn E) pg k tg g/\JF (CE X vars scope cl C s₀ ρ₀ ex pn E) pg k ifs mt/\JE (CE X vars scope cl C s₀ ρ₀ ex pn E) pg k e ma
structure Q3(X:Cx)(ρ2:Ps)(s2:R8)(fp:List Sl)(C x:Sl)(s4:R8):Prop where
 ex: ∃ Cc us p4 dx ρ4,Lh X Cc us p4/\XK s4.gens/\Un (kg X.stack) fp ρ2 s2.heap ρ4 s4.heap/\hX X.prog X.w X.base ρ4 p4 s4.heap/\(∀ b∈kg X.stack,¬ dF ρ4 b/\ ∃ o,s4.heap.get? b=fI o/\ ∀ vs,o.data≠ .fields vs)/\xc s2.heap.objs.size ρ4 s4.heap x Cc dx/\uM ρ4 s4.heap dx us/\s2.heap.objs.size<=dx/\ ¬ dF ρ4 dx/\dx≠C/\ ¬ dF ρ4 C
 os:s4.os=s2.os
 ns: ∃ m,s4.heap.Ns C m
 lo:s2.heap.objs.size<=C
 nf:C ∉ kg X.stack
section
variable {X:Cx} {pg:Tb} {k:Nat} {scope:XG} {vars:List Str} {elt tg iter:Tr} {ifs:List Tr} {pos spos py:Pos} {g:MG} {mt:MT} {ma:ME} {mI:MI} {i:Nat} {y:Str}
theorem AJ{pins:List (Sl × Obj)}{ρ :Ps}{fp:List Sl}(f: ∀ b∈fp,jC X pins ρ b):rC X pins fp:=λb hb=>(f b hb).2.2 b (Sf.mpr rfl)
theorem wx{pins : List (Sl × Obj)}{v : ay}{ρ2 : Ps}{p2 : PH}{s2 s4 : R8}{fp : List Sl}{x C : Sl}{use : Option (RZ -> Sem Unit)}{Q : RZ -> R8 -> Prop}{acc : RZ}(I2 : Inv X pins v ρ2 p2 s2)(f2 : ∀ b ∈ fp, jC X pins ρ2 b)(L : Q3 X ρ2 s2 fp C x s4) : compPost (SN X.prog X.w) X.A X.xe use Q acc C (.error (.ref x)) s4 := by
  obtain ⟨⟨Cc, us, p4, dx, ρ4, xo, bare, un, sim, fr, F, att, lo, nt, dC, nC⟩, os, ⟨m, hn⟩, hC, CF⟩ := L;refine ⟨m, hn, λh' sb cenv _ => ?_⟩;obtain ⟨oC, eC, _, hoC, hdC, _⟩ := id hn;obtain ⟨oe, vs, e1, e2, e3, e4, e5, e6, T, oT, ts, fl, a1, a2, a3, a4, a5, a6, a7⟩ := id F;have xC : x ≠ C := λz => by rw [z, hoC] at e1; cases e1; rw [hdC] at e4; cases e4
  have TC : T ≠ C := λz => by rw [z, hoC] at a5; cases a5; rw [hdC] at a6; cases a6
  have kc : ∀ b o, b ≠ C -> s4.heap.get? b = fI o -> h'.get? b = fI o := λb o n z => (sb.2 b n).trans z;have old : ∀{b o}, s2.heap.get? b = fI o -> b ≠ C := λz => SW (SK (Su z) hC);have g4 : Gr ρ4 s4.heap ρ4 h' := (.of λb o z _ ⟨us, n, d⟩ => ⟨o.slots, kc b o (λy => by rw [y, hoC] at z; cases z; rw [hdC] at d; cases d) z⟩)
  have un' : Un (kg X.stack) fp ρ2 s2.heap ρ4 h' := ⟨λb o z n nb hx => kc b o (old z) (un.keep b o z n nb hx), λb o z n hb hx => let ⟨sl, q⟩ := un.slot b o z n hb hx; ⟨sl, kc _ _ (old z) q⟩, un.free, λb o z hx => let ⟨o', q⟩ := un.there b o z hx; ⟨o', kc _ _ (old z) q⟩, un.gr.trans g4⟩
  have F' : xc s2.heap.objs.size ρ4 h' x Cc dx := ⟨oe, vs, kc _ _ xC e1, e2, e3, e4, e5, e6, T, oT, ts, fl, a1, a2, a3, a4, kc _ _ TC a5, a6, a7⟩
  unfold PySem.passOn;refine mh (S7 (kc _ _ xC e1) e4 a1 ?_);rw [if_neg (show ¬ ((TZ T == Tx) = true) from by simp)];have go : SD (SN X.prog X.w) X.A (ZJ (.ref x) cenv.frame) (λ_ s5 => SD (SN X.prog X.w) X.A (throw (.ref x) : Sem RZ) (λ_ _ => False) X.xe s5) X.xe { s4 with heap := h'} := by
    refine E4 (s := { s4 with heap := h'}) (fs := kg X.stack) (λb hb => let ⟨_, o, ho, hnf⟩ := fr b hb; ⟨o, kc _ _ (λz => CF (z ▸ hb)) ho, hnf⟩) F' λh2 p2' F2 => wpAny_throw ?_;have df : dx ∉ kg X.stack := λz => (Sd.mp (I2.j6 dx z)).elim (λy => absurd I2.lt (Uq.mpr (y ▸ lo))) (I2.F5 lo);exact xo pins v ρ2 p2 s2 _ _ fp I2 (AJ f2) ⟨x, dx, ρ4, rfl, os, bare, p2'.un un' (Si _) (λb hb => .inl hb) λb hb => hb, p2'.sim (λb hb => (fr b hb).1) (sim.keep g4 λb t u z => kc b u (λy => nC (y ▸ t)) z), F2.Q0, p2'.JV df (att.wJ g4 λu => kc _ _ dC), lo, nt⟩
  first
    | exact mh (Sg (mh go))
    | exact mh go
theorem rK{pins:List (Sl × Obj)}{v:ay}{ρ2:Ps}{p2:PH}{s2:R8}{cl:List (Str × Sl)}{it:Sl}{fp:List Sl}{tn:Nat->SM->Prop}{IT:kC}{RR:RZ->Sl->vD->R8->Prop}{R:List PV->PH->Prop}{E:RZ->R8->Prop}
  (A:dz X pg k) (yl:scope.kind= .function) (hlc:mW scope.names X.env.scope.names X.N vars=true) (hb:LB X pg k vars scope tg g ifs mt elt ma) (hgk:GP X.N.length g)
  (hc1: ∀ x c,cl.lookup x=fI c->X.env.cells.lookup x=fI c) (hc2: ∀ x,scope.names.lookup x=fI .free-> ∃ c,cl.lookup x=fI c)
  (I2:Inv X pins v ρ2 p2 s2) (T:Turn X.prog X.w X.K tg IT ρ2 s2.heap fp it tn) (st2:tn 0 s2.heap) (f2: ∀ b∈fp,jC X pins ρ2 b)
  (o:Out X R (dU IT (aM vars.length g mt ma (run pg k) v) IT.items [] p2))
  (hRR: ∀ D C (ρ4:Ps) p4 s4 ys,R ys p4->Gr ρ2 s2.heap (ρ4.add [(D,fI D)]) s4.heap->Inv X pins v (ρ4.add [(D,fI D)]) (p4++[.lst ys]) s4->(∃ m,s4.heap.Ns C m)-> ¬ dF (ρ4.add [(D,fI D)]) C->rC X pins [C]->(∃ q,(ρ4.add [(D,fI D)]).l[p4.length]?=fI q/\q.1=D)->RR (.ref D) C (.ok .next) s4)
  (hRE: ∀ D C x s4,Q3 X ρ2 s2 fp C x s4->RR (.ref D) C (.error (.ref x)) s4) :
  SD (SN X.prog X.w) X.A (newList []) (λacc s₃ =>SD (SN X.prog X.w) X.A (Zp scope X.env.globals cl [] X.env.qual ox .none (fI X.env)) (λcenv s₄ =>
   WJ (SN X.prog X.w) X.A (.compStart (.ListComp elt [⟨tg,iter,ifs,0⟩] scope pos) 0 (.ref it) acc { cenv with scope:=relabel scope X.env}) (RR acc cenv.locals) s₄) E s₃) E s2:=by
 refine UB (si ?_);dsimp only;generalize hH2:s2.heap.push { cls:= .type "list",dict:=ox,data:= .seq ([]:List RZ).toArray}=P2;have hC:P2.objs.size=s2.heap.objs.size+1:=by rw[<- hH2,TL]
 have hCle:s2.heap.objs.size<=P2.objs.size:=by rw[hC];exact WN _
 have hz:(P2.push { cls:= .type "dict",data:= .dict #[]}).objs.size=P2.objs.size+1:=TL ..;have cn:=yG scope.names (P2.push { cls:= .type "dict",data:= .dict #[]}) cl;rw[hz] at cn;have ci: ∀ x y c,(U0 (P2.objs.size+1) scope.names cl).lookup x=fI c->(U0 (P2.objs.size+1) scope.names cl).lookup y=fI c->s2.heap.objs.size<=c->x=y:=yZ scope.names (P2.objs.size+1) cl (λx y c e1 _ hl=>absurd (SK (I2.cell x c (hc1 x c e1)).choose_spec.lt hl) (TF _)) (λx c e=>SK (I2.cell x c (hc1 x c e)).choose_spec.lt (U3 hCle));have cs: ∀ x,scope.names.lookup x=fI .free\/scope.names.lookup x=fI .cell-> ∃ c,(U0 (P2.objs.size+1) scope.names cl).lookup x=fI c:=λx h=>VV.mp (Wq _ _ _ (h.elim (λz=> .inr (VV.mpr (hc2 x z))) .inl));have hns₁ :(Yv (P2.push { cls:= .type "dict",data:= .dict #[]}) scope.names).Ns P2.objs.size (λ_=>ox):=(Heap.Ns.new P2 (.type "dict")).keeps (Y4 _ _);have kp: ∀ b o,P2.get? b=fI o->(Yv (P2.push { cls:= .type "dict",data:= .dict #[]}) scope.names).get? b=fI o:=λb o e=>Y4 _ _ b o (Sa _ e);generalize Yv (P2.push { cls:= .type "dict",data:= .dict #[]}) scope.names=h₁ at *;generalize U0 (P2.objs.size+1) scope.names cl=cl' at *;have old: ∀ b o,s2.heap.get? b=fI o->h₁.get? b=fI o:=λb o e=>kp b o (hH2 ▸ Sa _ e);have hacc:h₁.get? s2.heap.objs.size=fI { cls:= .type "list",data:= .seq ([]:List RZ).toArray 0}:=kp _ _ (hH2 ▸ Sv _ rfl);have c1: ∀ x c,cl'.lookup x=fI c->(scope.names.lookup x≠fI .cell/\X.env.cells.lookup x=fI c)\/(scope.names.lookup x=fI .cell/\s2.heap.objs.size+1<=c/\h₁.IsCell c ox):=λx c e=>by
  rcases cn x c e with⟨n,q⟩ | ⟨m,q⟩
  . exact .inl ⟨λz=>n (lookup_mem z),hc1 x c q⟩
  . exact .inr ⟨(kn (X:=X) hlc _ m).1 rfl,Sx (WD hCle) q.1,q.2⟩
 clear cn kp hz
 generalize hCe:P2.objs.size=C at *
 clear hH2 hCe
 subst hC;generalize hDe:s2.heap.objs.size=D at *;have fo: ∀ b∈fp,∃ o,s2.heap.get? b=fI o:=λb hb=>let ⟨o,e,_⟩:=T.obj _ _ st2 b hb;⟨o,e⟩
 have fpD: ∀ b∈fp,b < D:=λb hb=>by obtain⟨o,e⟩:=fo b hb;rw[<- hDe];exact Su e
 have Dle:s2.heap.objs.size<=D:=YL hDe;have CD:s2.heap.objs.size<=D+1:=U3 Dle;have chN: ∀{b},D<=b->rC X pins [b]:=λh=>(I2.DS (Sx Dle h) (I2.sim.fresh (Sx Dle h))).2.2;have nfr: ∀{b},D<=b->b ∉ kg X.stack:=λ{b} h z=>(Sd.mp (I2.j6 b z)).elim (λy=>absurd I2.lt (Uq.mpr (y ▸ Sx Dle h))) (I2.F5 (Sx Dle h))
 let E':RZ->R8->Prop:=notedBy (SN X.prog X.w) X.A (VI scope cl' (D+1) X.env) λe s'=>RR (.ref D) (D+1) (.error e) s'
 have IY0:Inv (CE X vars scope cl' (D+1) s2 ρ2 fp (X.pn++pins) E') [] (v++Sz vars.length ox) ρ2 p2 { s2 with heap:=h₁,toks:=s2.toks} :=
  I2.CE yl hlc (λx c e=>(c1 x c e).imp id λz=>⟨z.1,by rw [hDe];exact Wr z.2.1,z.2.2⟩) cs (by rw [hDe];exact ci) f2 fo CD hns₁ old
 obtain ⟨hg,hf,he⟩:=hb cl' (D+1) s2 ρ2 fp (X.pn++pins) E';have xk: ∀ Cc us p',Lh X Cc us p'->Lh (CE X vars scope cl' (D+1) s2 ρ2 fp (X.pn++pins) E') Cc us p':=by
  rintro Cc us p' xo pi v' ρ' q s e s' ch I hch ⟨x,dx, ρ4,rfl,os,bare,un,sim,F,att,lo,nt⟩;have J:=I.call os un sim bare hch;obtain ⟨yK,out0,L,st0,f0,fX⟩:=A.own;have nz:s2.heap.objs.size<=s.heap.objs.size:=I.sz;obtain⟨m,hnC,_⟩:=id J.loc;have hl:s'.heap.FunFrames X.base (yK::out0):=by rw[<- st0];exact J.stack
  show SD _ _ (NC _ _) _ _ _;refine xu (outer:=out0) (env:=yK) (by rw[<- st0];exact J.ok.frames) hl f0 (show(VI scope cl' (D+1) X.env).frame=fI L from fX) (F.mono nz) J.sz (λa ha=>sim.fresh ha) λh1 p1 F1=>?_;rw [<- st0] at p1;have Cf:D+1 ∉ kg X.stack:=nfr (WN _);have Clt:D+1 < s.heap.objs.size:=I.lt;refine hRE D (D+1) x { s' with heap:=h1} ⟨⟨Cc,us,p',dx, ρ4,xo,bare,p1.un J.base (Si _) (λb hb=> .inl hb) λb hb=>hb,p1.sim J.nH sim,λb hb=>?_,F1,p1.JV (nfr (Sx (Wr (Vl Clt)) lo)) att,Sx nz lo,nt,TB (SK Clt lo),J.free⟩,J.os,?_,CD,Cf⟩
  . obtain ⟨_,o,ho,hnf⟩:=J.stack.mem hb;obtain ⟨sl,e⟩:=p1.slot b o ho hb;exact ⟨J.nH b hb,_,e,hnf⟩
  . obtain⟨o,es,ep,ho,d,r⟩:=hnC;exact⟨m,o,es,ep,p1.keep _ o ho (.inr (.inr λvs z=>by rw[d] at z;cases z)) Cf,d,r⟩
 have o:=o.ctx xk
 clear hRE xk
 generalize hY:CE X vars scope cl' (D+1) s2 ρ2 fp (X.pn++pins) E'=Y at *;have Yq:Y.prog=X.prog/\Y.w=X.w/\Y.K=X.K/\Y.A=X.A/\Y.calm=true/\Y.env=VI scope cl' (D+1) X.env/\Y.ex=fp/\Y.fs=kg X.stack/\Y.s₀ =s2/\Y.ρ₀ = ρ2/\Y.pn=X.pn++pins/\Y.xe=E'/\Y.base=X.base:=by rw[<- hY];exact⟨rfl,rfl,rfl,rfl,A.calm,rfl,rfl,rfl,rfl,rfl,rfl,rfl,rfl⟩
 have AY:dz Y pg k:=by rw[<- hY];exact A.CE
 obtain⟨Yp,Yw,YK,YA,Yc,Ye,Yex,Yfs,Ys,Yr,Ypn,Yxe,Yb⟩:=Yq;have Yloc:Y.env.locals=D+1:=by rw[Ye];rfl
 have fpY: ∀{ρ':Ps}{pl:List (Sl × Obj)},(∀ b∈fp,¬ dF ρ' b)->(∀ q∈pl,D<=q.1)-> ∀ b∈fp,jC Y pl ρ' b:=λ{ρ' pl} hn hp b hb=>by
  obtain⟨x1,x2,x3,x4⟩:=AJ f2 b hb;refine⟨hn b hb,?_,λc hc=>?_⟩
  . rw[Yfs];exact λz=>(Sd.mp (I2.j6 b z)).elim x2 (f2 b hb).2.1
  . rw[Sf.mp hc];refine⟨.inl (by rw[Yex];exact hb),by rw[Yloc];exact SW (Uc (fpD b hb)),λx c e z=>?_,λq hq z=>?_⟩
    . rw[Ye] at e;exact(c1 x c e).elim (λw=>x3 x c w.2 z) λw=>absurd (fpD b hb) (Uq.mpr (Wr (z ▸ w.2.1)))
    . rcases Ti.mp hq with q1 | q1
      . rw[Ypn] at q1;exact x4 q q1 z
      . exact absurd (fpD b hb) (Uq.mpr (z ▸ hp q q1))
 have Dfs:D ∉ Y.fs:=by rw[Yfs];exact nfr (Si _)
 have pl1: ∀{its:Array RZ}{n:Nat},∀ q∈[(D,({ cls:= .type "list",data:= .seq its n}:Obj))],D<=q.1:=λq hq=>by rw[Sf.mp hq];exact Si _
 have chY:rC Y [] [D]:=λb hb=>by
  rw[Sf.mp hb];refine⟨.inr (by rw[Ys,hDe];exact Si _),by rw[Yloc];exact SW (UN _),λx c e=>?_,λq hq=>?_⟩
  . rw[Ye] at e;exact(c1 x c e).elim (λz=>(chN (Si D) D (Sf.mpr rfl)).2.2.1 x c z.2) (λz=>TB (Nat.lt_of_succ_le z.2.1))
  . rw[SA,Ypn] at hq;exact (chN (Si D) D (Sf.mpr rfl)).2.2.2 q hq
 have loop:WJ (SN X.prog X.w) X.A (.compLoop (.ListComp elt [⟨tg,iter,ifs,0⟩] scope pos) 0 (.ref it) (.ref D) (VI scope cl' (D+1) X.env)) (RR (.ref D) (D+1)) { s2 with heap:=h₁,toks:=s2.toks}:=by
  refine ql (λn s'=> ∃ i ys ρ' p' its m,Gr ρ2 s2.heap ρ' s'.heap∧Inv Y [(D,{ cls:= .type "list",data:= .seq its m})] (v++Sz vars.length ox) ρ' p' s'∧tn i s'.heap∧(∀ b∈fp,¬ dF ρ' b)∧aB ρ' s'.heap ys its.toList∧its.size<=sizeLine∧i<=IT.items.length∧n=IT.items.length - i∧Out Y R (dU IT (aM vars.length g mt ma (run pg k) v) (IT.items.drop i) ys p')) ?_ IT.items.length
   ⟨0,[], ρ2,p2, #[],0,Gr.kept old,IY0.kl (λq hq=>?_),T.keep _ _ _ st2 λb _ o e=>old b o e,λb hb=>(f2 b hb).1,.nil,SX _,SX _,rfl,o⟩
  . rintro n s3 ⟨i,ys, ρ3,p3,its,m,g3,I3,lB,fr3,hv,hlen,hi,hn,o3⟩;have fY:=fpY fr3 (pl1 (its:=its) (n:=m));rcases TJ i IT.items.length with hlt | hge
    . rw [UY hlt,dU] at o3;obtain⟨⟨hfn,hys⟩,o3⟩:=Out.ite o3;have d:=λQ hQ=>T.item (E:=E') (Q:=Q) Yp Yw YK Yc I3 g3 fY lB hfn (R6 hlt) hQ;rw[YA] at d
      refine' Ub (d _ ?k) ?g λ_ _ z=>z
      case g=>intro r s4 z;obtain⟨u,rfl,h4⟩:=z;exact h4
      intro u s5 g5 I5 r5 st5;have I5':=I5.pinned fY (T.obj _ _ st5);unfold aM at o3;rw[bind_assoc] at o3;have a1:=λQ o'=>hg.h (Q:=Q) AY I5' r5 o';rw[Yp,Yw,YA,Ye,Yxe] at a1;refine a1 _ (o3.RF λe6 p6 e6q o6 ρ6 s6 g6 I6=>?_);rw[bind_assoc] at o6;have a2:=λQ o'=>hf.h (Q:=Q) AY I6 o';rw[Yp,Yw,YA,Ye,Yxe] at a2;have back: ∀{pl ρ' p' s'},Inv Y pl e6 ρ' p' s'->Inv Y pl (v++Sz vars.length ox) ρ' p' s':=λI'=>by
       refine I'.weak (by rw[I'.len,<- I3.len]) λj w e=>?_;rcases TJ j v.length with hj | hj
       . rw[hgk e6q j (by rw[<- I2.len];exact hj)];exact e
       . rw[S8 hj,Wb] at e;split at e<;>cases e
      have pn: ∀{e' ρ' p' s'},Inv Y ([(D,{ cls:= .type "list",data:= .seq its m})]++oE fp s5.heap) e' ρ' p' s'->tn (i+1) s'.heap/\ ∀ b∈fp,¬ dF ρ' b:=λI'=>by
       have q: ∀ b∈fp,∀ o,s5.heap.get? b=fI o->_:=λb hb o e=>I'.pin (b,o) (To _ (To _ (ly hb e)));exact⟨T.keep _ _ _ st5 λb hb o e=>(q b hb o e).1,λb hb=>let ⟨o,e,_⟩:=T.obj _ _ st5 b hb;(q b hb o e).2.1⟩
      refine a2 _ (o6.go λt p7 o7 ρ7 s7 g7 I7=>?_);have G7:=((g3.trans g5).trans g6).trans g7;cases t with
      | false =>
       unfold zI
       rw [if_neg (show ¬ false=true from T6)]
       obtain ⟨st7,fr7⟩:=pn I7
       exact ⟨IT.items.length - (i+1),by omega,i+1,ys, ρ7,p7,its,m,G7,(back I7).kl (λq hq=>I7.pin q (To _ (Tq _ hq))),st7,fr7,((hv.up g5).up g6).up g7,hlen,hlt,rfl,o7⟩
      | true =>
       unfold zI
       rw [if_pos (show true=true from rfl)]
       rw[if_pos rfl,bind_assoc] at o7
       have a3:=λQ o'=>he.h (Q:=Q) AY I7 o'
       rw[Yp,Yw,YA,Ye,Yxe] at a3
       refine a3 _ (o7.go λy p8 o8 ρ8 s8 u8 g8 I8 r8=>?_)
       obtain⟨eD,nD,neL,nfD,dD⟩:=I8.pin (D,_) (To _ (Tq _ So))
       obtain⟨st8,fr8⟩:=pn I8
       have hsz:its.size < sizeLine:=(hv.len.trans Tw) ▸ hys
       refine append_at (hsz:=Vl hsz) eD λh9 hs9 e9=>?_
       have g9:Gr ρ8 s8.heap ρ8 h9:=(.of λb ob z c _=>⟨ob.slots,hs9.extBut b ob (λw=>by rw [w,eD] at z;cases z;simp at c) z⟩)
       have I8':Inv Y [] (v++Sz vars.length ox) ρ8 p8 s8:=(back I8).kl λq hq=>absurd hq Sp
       have I9:=I8'.turned (it:=D) (h':=h9) (t':=s8.toks) g9 (λb o hb' e=>hs9.extBut b o hb' e) nD chY
       refine ⟨IT.items.length - (i+1),by omega,i+1,ys++[y], ρ8,p8,its.push u8,m+1,(G7.trans g8).trans g9,I9.kl (λq hq=>?_),T.keep _ _ _ st8 λb hb' o e=>hs9.extBut b o (SW (fpD b hb')) e,fr8,?_,by rw [Y5];exact hsz,hlt,rfl,o8⟩
       . rw [Sf.mp hq];exact ⟨e9,nD,neL,nfD,λv=>by intro z;cases z⟩
       . rw [zH];exact aB.app ((((hv.up g5).up g6).up g7).up (g8.trans g9)) (.one (r8.up g9))
    . have ei:i=IT.items.length:=V3 hi hge;rw[UG hge,dU] at o3;obtain⟨hfn,o3⟩:=Out.ite o3;have d:=λQ hQ=>T.done (E:=E') (Q:=Q) Yp Yw YK Yc I3 g3 fY lB hfn ei hQ;rw[YA] at d;refine Ub (d (λs4=>RR (.ref D) (D+1) (.ok .next) s4) λs4 g4 I4=>?_) (λr s4 z=>by obtain⟨rfl,h⟩:=z;exact h) λ_ _ z=>z;obtain⟨eD,nD,_,_,_⟩:=I4.pin (D,_) (To _ So);obtain⟨m',hnC,_⟩:=I4.loc;rw[Yloc] at hnC;have hb4:=I4.base;rw[Yfs,Yex,Yr,Ys] at hb4;have sm:=I4.sim;rw[Yp,Yw,Yb] at sm;have hCf:=I4.free;rw[Yloc] at hCf;have gD:Gr ρ3 s4.heap (ρ3.add [(D,fI D)]) s4.heap:=Gr.refl.more _;have hv4:=(hv.up g4).up gD;have neD: ∀{b o},s2.heap.get? b=fI o->b≠D:=λe=>by rw[<- hDe];exact SW (Su e)
      have IX:Inv X pins v (ρ3.add [(D,fI D)]) (p3++[.lst ys]) s4:=I2.call (ch:=fp) (I4.os.trans (by rw[Ys])) ⟨hb4.keep,hb4.slot,λb o e n hx t=>(nN (d:=D) rfl t).elim (hb4.free b o e n hx) λz=>neD e (z.elim id id),hb4.there,hb4.gr.trans gD⟩
       (sm.D2 (d:=D) rfl nD nD ⟨rfl,its.toList,hv4,by rw[Tw];exact hlen,m,by simpa using eD⟩) I4.bare (AJ f2)
      refine hRR D (D+1) ρ3 p3 s4 ys o3 ((g3.trans g4).trans gD) IX ⟨m',hnC⟩ (λt=>(nN (d:=D) rfl t).elim hCf λz=>absurd (z.elim id id) (Nat.succ_ne_self D)) (chN (WN _)) ⟨(D,fI D),sm.end,rfl⟩
  . rw[Sf.mp hq];exact⟨hacc,I2.sim.fresh Dle,by rw[Yloc];exact SW (UN _),Dfs,λv=>by intro z;cases z⟩
 exact codeAny_compStart_list loop (T.self _ 0 _ _ _ (T.keep _ _ _ st2 λb _ o e=>old b o e) loop)
end
section
variable{X:Cx}{pg:Tb}{k:Nat}{e iter tg:Tr}{g:MG}{ma:ME}{mt:MT}{mI:MI}{scope:XG}{ifs:List Tr}{pos spos py vp wp up tp:Pos}{y u v w:Str}{i j l m n:Nat}
theorem Gr.ns{ρ :Ps}{h h':SM}{C:Sl}{m:Str->Option RZ}(hn:h.Ns C m)(sb:Xa C h h'):Gr ρ h ρ h':=(.of λb o z _ ⟨us,n,d⟩=>⟨o.slots,(sb.2 b λy=>by
 obtain⟨oC,_,_,hoC,hdC,_⟩:=hn;rw[y,hoC] at z;cases z;rw[hdC] at d;cases d).trans z⟩)
theorem xQ(vars:List Str)(yl:scope.kind= .function)(hlc:mW scope.names X.env.scope.names X.N vars=true)(hi:JI X pg k tg iter mI)(hb:LB X pg k vars scope tg g ifs mt e ma)(hG:GP X.N.length g)
  (hs:autoParam (∀ x,Us iter X.env x=pure x) aG):JE X pg k (.ListComp e [⟨tg,iter,ifs,0⟩] scope pos) (hW vars.length mI g mt ma):=⟨λ{pins v ρ p s Q} A I o=>by
 obtain⟨cl,hcl,hc1,hc2⟩:=rP (env:=X.env) (scope:=scope) λp hp hf=>I.ok.has p.1 ((kn (X:=X) hlc p hp).2.1 hf);rw[eval_ListComp];refine X6 (use:=ox) rfl hs hcl yl (λp hp=>(kn (X:=X) hlc p hp).2.2) ?_;refine hi.h A I (o.go λIT q2 o ρ2 s2 it fp tn g2 I2 T st2 f2=>?_);refine rK (RR:=λacc C=>compPost (SN X.prog X.w) X.A X.xe ox Q acc C) A yl hlc hb hG hc1 hc2 I2 T st2 f2 (o.go λys q3 o=>o) ?_ λD C x s4 L=>wx I2 f2 L;intro D C ρ4 p4 s4 ys r g4 I4 ⟨m,hn⟩ nC hch ⟨q,hq,hqD⟩;refine⟨m,hn,λh' hs'=>r _ _ (.ref D) ((g2.trans g4).trans (Gr.ns hn hs')) (I4.turned (it:=C) (t':=s4.toks) (Gr.ns hn hs') (λb o hb e=>hs'.extBut b o hb e) nC hch) ⟨q,hq,by rw[hqD]⟩⟩⟩
theorem wW(vars:List Str)(i:Nat)(yl:scope.kind= .function)(hlc:mW scope.names X.env.scope.names X.N vars=true)(hN:X.N.Nodup)(hiy:X.N[i]?=fI y)(hy:Loc X.env.scope y)(hi:JI X pg k tg iter mI)(hb:LB X pg k vars scope tg g ifs mt e ma)(hG:GP X.N.length g)
  (hsw:autoParam (ZI (.ListComp e [⟨tg,iter,ifs,0⟩] scope pos) (fI (.Name y py)) spos.line X.env=pure true) aG) (hs:autoParam (∀ x,Us iter X.env x=pure x) aG)
  (hf:autoParam (X.fn y=true\/X.env.scope.names.lookup y=fI .local) kX) :
  JS X pg k (.Assign [.Name y py] (.ListComp e [⟨tg,iter,ifs,0⟩] scope pos) spos) (ak (hW vars.length mI g mt ma) (gN i)):=⟨λ{pins v ρ p s Q} A I o=>by
 obtain⟨cl,hcl,hc1,hc2⟩:=rP (env:=X.env) (scope:=scope) λp hp hf=>I.ok.has p.1 ((kn (X:=X) hlc p hp).2.1 hf);rw[exec_Assign_Name_used _ _ _ _ hsw];refine mh (ZU (mh ?_));show SD _ X.A (do let _ <- comprehension (.ListComp e [⟨tg,iter,ifs,0⟩] scope pos) scope X.env _ (newList []) false (Wm iter X.env) (fI (XZ (.Name y py) X.env))) _ _ s;refine mh (Ub (X6 (use:=fI (XZ (.Name y py) X.env)) (Q:=λ_ s'=>Q .next s') rfl hs hcl yl (λp hp=>(kn (X:=X) hlc p hp).2.2) ?_) (λ_ s' hq=>Sg (Sg hq)) λ_ _ e=>e);unfold ak hW at o;rw[bind_assoc] at o;refine hi.h A I (o.go λIT q2 o ρ2 s2 it fp tn g2 I2 T st2 f2=>?_);rw[bind_assoc] at o;refine rK (RR:=λacc C=>compPost (SN X.prog X.w) X.A X.xe (fI (XZ (.Name y py) X.env)) (λ_ s'=>Q .next s') acc C) A yl hlc hb hG hc1 hc2 I2 T st2 f2 (o.go λys q3 o=>o) ?_ λD C x s4 L=>wx I2 f2 L;intro D C ρ4 p4 s4 ys r g4 I4 ⟨m,hn⟩ nC hch ⟨q,hq,hqD⟩;show SD _ X.A (XZ (.Name y py) X.env (.ref D)) _ _ s4;refine wpAny_assign_Name (tL I4 hN hiy hy (v:= .ref p4.length) ⟨q,hq,by rw[hqD]⟩ (λs5 I5 g5 ⟨a,hsb,ha⟩=>?_) hf);have hCa:C≠a:=by
  rcases ha with z | z
  . rw[z];exact(hch C (Sf.mpr rfl)).2.1
  . exact VC ((hch C (Sf.mpr rfl)).2.2.1 _ _ z)
 have hn5:=hn.sameBut hsb hCa;refine⟨m,hn5,λh' hs'=>?_⟩;exact r _ _ (((g2.trans g4).trans g5).trans (Gr.ns hn5 hs')) (I5.turned (it:=C) (t':=s5.toks) (Gr.ns hn5 hs') (λb o hb e=>hs'.extBut b o hb e) nC hch)⟩
theorem M6(hi:JI X pg k (.Name v vp) iter mI)
  (hb:LB X pg k [v] scope (.Name v vp) (gN m) ifs mt e ma)
  (hm:autoParam (ZK X.N.length m=true) aG) (yl:autoParam (scope.kind= .function) aG) (hlc:autoParam (mW scope.names X.env.scope.names X.N [v]=true) aG) (hs:autoParam (∀ x,Us iter X.env x=pure x) aG) :
  JE X pg k (.ListComp e [⟨.Name v vp,iter,ifs,0⟩] scope pos) (hW 1 mI (gN m) mt ma):=xQ [v] yl hlc hi hb (ku hm) hs
theorem LI(hi:JI X pg k (.Tuple [.Name v vp,.Name w wp] j tp) iter mI)
  (hb:LB X pg k [v,w] scope (.Tuple [.Name v vp,.Name w wp] j tp) (gT 2 (ax (gN m) (ax (gN n) bN))) ifs mt e ma)
  (hm:autoParam (ZK X.N.length m=true) aG) (hn:autoParam (ZK X.N.length n=true) aG) (yl:autoParam (scope.kind= .function) aG) (hlc:autoParam (mW scope.names X.env.scope.names X.N [v,w]=true) aG) (hs:autoParam (∀ x,Us iter X.env x=pure x) aG) :
  JE X pg k (.ListComp e [⟨.Tuple [.Name v vp,.Name w wp] j tp,iter,ifs,0⟩] scope pos) (hW 2 mI (gT 2 (ax (gN m) (ax (gN n) bN))) mt ma):=xQ [v,w] yl hlc hi hb (CU (nv (ku hm) (nv (ku hn) AL))) hs
theorem Lo(hN:X.N.Nodup)(hi:JI X pg k (.Name v vp) iter mI)
  (hb:LB X pg k [v] scope (.Name v vp) (gN m) ifs mt e ma)
  (hm:autoParam (ZK X.N.length m=true) aG) (hiy:autoParam (X.N[i]?=fI y) aG) (hy:autoParam (Loc X.env.scope y) kX) (yl:autoParam (scope.kind= .function) aG) (hlc:autoParam (mW scope.names X.env.scope.names X.N [v]=true) aG)
  (hsw:autoParam (ZI (.ListComp e [⟨.Name v vp,iter,ifs,0⟩] scope pos) (fI (.Name y py)) spos.line X.env=pure true) aG) (hs:autoParam (∀ x,Us iter X.env x=pure x) aG)
  (hf:autoParam (X.fn y=true\/X.env.scope.names.lookup y=fI .local) kX) :
  JS X pg k (.Assign [.Name y py] (.ListComp e [⟨.Name v vp,iter,ifs,0⟩] scope pos) spos) (ak (hW 1 mI (gN m) mt ma) (gN i)):=wW [v] i yl hlc hN hiy hy hi hb (ku hm) hsw hs hf
theorem K8(hN:X.N.Nodup)(hi:JI X pg k (.Tuple [.Name v vp,.Name w wp] j tp) iter mI)
  (hb:LB X pg k [v,w] scope (.Tuple [.Name v vp,.Name w wp] j tp) (gT 2 (ax (gN m) (ax (gN n) bN))) ifs mt e ma)
  (hm:autoParam (ZK X.N.length m=true) aG) (hn:autoParam (ZK X.N.length n=true) aG) (hiy:autoParam (X.N[i]?=fI y) aG) (hy:autoParam (Loc X.env.scope y) kX) (yl:autoParam (scope.kind= .function) aG) (hlc:autoParam (mW scope.names X.env.scope.names X.N [v,w]=true) aG)
  (hsw:autoParam (ZI (.ListComp e [⟨.Tuple [.Name v vp,.Name w wp] j tp,iter,ifs,0⟩] scope pos) (fI (.Name y py)) spos.line X.env=pure true) aG) (hs:autoParam (∀ x,Us iter X.env x=pure x) aG)
  (hf:autoParam (X.fn y=true\/X.env.scope.names.lookup y=fI .local) kX) :
  JS X pg k (.Assign [.Name y py] (.ListComp e [⟨.Tuple [.Name v vp,.Name w wp] j tp,iter,ifs,0⟩] scope pos) spos) (ak (hW 2 mI (gT 2 (ax (gN m) (ax (gN n) bN))) mt ma) (gN i)):=wW [v,w] i yl hlc hN hiy hy hi hb (CU (nv (ku hm) (nv (ku hn) AL))) hsw hs hf
end
end _P
end
section
namespace _L
open PySem PySem.Spec PyProof.Rows
def xJ(h:SM) a items:= ∃ o,h.get? a=fI o/\o.cls= .type "tuple" /\ ∃ n,o.data= .seq items n/\o.dict=ox
theorem xJ.tup{h a items}(x:xJ h a items):Wl h a items:=by obtain⟨o,e,c,n,d,_⟩:=x;exact⟨o,e,c,n,d⟩
noncomputable def GZ(g h:SM) L:=(S6 h.objs.size).filterMap λa=>if a=L\/(g.get? a).isSome=true then ox else(h.get? a).map λo=>(a,o)
noncomputable def rest g h L d:=(GZ g h L).filter λp=>decide (p.1≠d)
structure Pp(h:SM)(x dx C:Sl)(mA:Str->Option RZ):Prop where
 obj:h.get? x=fI (Y0 C dx)
 ns:h.Ns1 dx mA
 ne:dx≠x
theorem BN{h:SM}(n:h.Ns1 dx mA): ∃ od,h.get? dx=fI od/\ ∀ name,Zq name od=fI (mA name):=by
 obtain⟨o,es,ep,ho,hd,hk,_,hm⟩:=n;refine⟨o,ho,λname=>?_⟩;have e:=hm name;unfold nsFind findBy at e;rw[<- Array.find?_toList] at e;unfold Zq;rw[hd];dsimp only;split
 . rename_i y q;rw[q] at e;exact congrArg fI e
 . rename_i q;rw[q] at e;have a:es.toList.any (·.refKey)=false:=by
    rw[List.any_eq_false];intro y hy;obtain⟨z,t,hkey⟩:=hk y (Array.mem_toList_iff.mp hy);simp[DictEntry.refKey,hkey]
   have a': ¬ es.toList.any (·.refKey)=true:=by rw[a];exact T6
   rw[if_neg a'];exact congrArg fI e
theorem Pp.look(I:Pp h x dx C mA): ∃ od,PySem.W.InstAt h x (Y0 C dx) C (fI od)/\ ∀ name,Zq name od=fI (mA name) :=
 by obtain⟨od,ho,hl⟩:=BN I.ns;exact⟨od,⟨I.obj,rfl,rfl,ho⟩,hl⟩
section
variable{CX:CXT}{k:Nat}{f C:Sl}{fd:Vt}{ps:List Str}{ds:List RZ}{x m:Str}{p pos apos:Pos}{e o:Tr}{es:List Tr}
structure Mk(K:Sy)(C f:Sl):Prop where
 makes:uU K C=true
 init:UR K (.ref C) "__init__" =fI (fI (.ref f))
 fn:Pn K (.ref f)=true
 kp:Vf K (.ref C)=true
end
end _L
namespace _H
open PySem PyProof.Rows
section
variable{prog:SP}{w:Tp}{A:TP}{E:RZ->R8->Prop}{s:R8}
theorem Hs{t b:Sl}{vs ws:List RZ}{Q:RZ->R8->Prop}(ht:Wl s.heap t vs.toArray)(hb:Wl s.heap b ws.toArray)(hv:vs≠[])
  (h1:ws=[]->Q (.ref t) s) (h2:ws≠[]->Q (.ref s.heap.objs.size) { s with heap:=s.heap.push { cls:= .type "tuple",data:= .seq (vs++ws).toArray}})
  (hsz:vs.length+ws.length<=sizeLine):SD (SN prog w) A (Xj .Add (.ref t) (.ref b)) Q E s:=by
 obtain⟨⟨cls,dd,data,sl⟩,ho,hc,n,hd⟩:=id ht;obtain⟨⟨cls2,dd2,data2,sl2⟩,ho2,hc2,n2,hd2⟩:=id hb;simp only at hc hd hc2 hd2;subst hc hd hc2 hd2;have e:vs.toArray++ws.toArray=(vs++ws).toArray:=by simp
 by_cases hw:ws=[]
 . exact wq ⟨_,ho,rfl⟩ ⟨_,ho2,rfl⟩ Yy ZV Ws Wc (VY _ _)
    (tuple_addW1 t b _ _ n n2 dd dd2 sl sl2 (by simpa using hv) (by simp[hw])) ⟨ho,ho2,h1 hw⟩
 . refine wq ⟨_,ho,rfl⟩ ⟨_,ho2,rfl⟩ Yy ZV Ws Wc (VY _ _)
    (tuple_addW2 t b _ _ n n2 dd dd2 sl sl2 (by simpa using hv) (by simpa using hw) (by exact hsz)) ⟨ho,ho2,?_⟩
   rw[e];exact h2 hw
theorem qS{v:RZ}{o:Option Int}{Q:Option Int->R8->Prop}(p:YM v o)(h:Q o s):SD (SN prog w) A (Builtin.Slice.slicePartIndex v) Q E s:=by
 cases p with
 | none=>exact slicePart_none h
 | int i t=>exact slicePart_int h
theorem iR{sl:Sl}{vl vu:RZ}{lo hi:Option Int}{n:Nat}{Q:Int × Int × Nat->R8->Prop}(hs:s.heap.IsSliceOf sl vl vu .none)(pl:YM vl lo)(pu:YM vu hi)
  (h:Q (((jl n 0 lo:Nat):Int),1,jl n n hi - jl n 0 lo) s):SD (SN prog w) A (Builtin.Slice.sliceApplied (.ref sl) (pure (n:Int))) Q E s:=by
 obtain⟨os,hos,hcs,hds⟩:=id hs;refine mh (mh (S7 hos hds (x:=vl) rfl (mh (S7 hos hds (x:=vu) rfl (mh (S7 hos hds rfl (Sg ?_)))))));refine mh (slicePart_none ?_);refine mh (qS pl (mh (qS pu (mh (Sg ?_)))));show SD _ _ (match Xz lo hi 1 (n) with | (lo,hi)=>pure (lo,(1:Int),VO lo hi 1)) _ _ s;rw[y9 lo hi n];show SD _ _ (pure _) _ _ s;rw[yj];exact Sg h
theorem E1(xs:Array RZ)(i k:Nat):((S6 k).filterMap λ(m:Nat)=>xs[((i:Int)+(m)*1).toNat]?).toArray=((xs.toList.drop i).take k).toArray:=by
 have e:(λ(m:Nat)=>xs[((i)+(m:Int)*1).toNat]?)=λm=>xs[i+m]?:=by
  funext m
  have:((i)+(m:Int)*1).toNat=i+m:=by lia
  rw[this]
 rw[e];have:=pick_run xs i k;rw[List.filterMap_map] at this;have e2:((λx=>xs[x]?) ∘ λx=>i+x)=λm=>xs[i+m]?:=rfl;rw[e2] at this;rw [this]
theorem mF{t sl : Sl}{items : Array RZ}{vl vu : RZ}{lo hi : Option Int}{Q : RZ -> R8 -> Prop}(ht : Wl s.heap t items)(hs : s.heap.IsSliceOf sl vl vu .none)(pl : YM vl lo)(pu : YM vu hi)
    (hw : ¬ (jl items.size 0 lo = 0 /\ jl items.size items.size hi = items.size))
    (h : Q (.ref s.heap.objs.size) { s with heap := s.heap.push { cls := .type "tuple", data := .seq ((items.toList.drop (jl items.size 0 lo)).take (jl items.size items.size hi - jl items.size 0 lo)).toArray}})
    (hsz : items.size <= sizeLine) : SD (SN prog w) A (WI (.ref t) (.ref sl)) Q E s := by
  have htake : sizeOk (.seq ((items.toList.drop (jl items.size 0 lo)).take (jl items.size items.size hi - jl items.size 0 lo)).toArray) := by
    show ((items.toList.drop _).take _).toArray.size <= sizeLine;rw [Ss, TM, Vg, Tw];omega
  obtain ⟨os, hos, hcs, hds⟩ := id hs;have hTs : s.TypeIs (.ref sl) _ := ⟨os, hos, hcs⟩
  unfold WI
  try with_reducible refine Tv ?_
  refine mh (wpAny_sequenceKey ht.typeIs (by decide) ?_);refine mh (TN ht.typeIs TR
    (Ua TR ht.typeIs ZO ?_ (Z6 _ _)))
  show SD _ _ (Xm _ >>= _) _ _ s;refine mh (tupleItemsOf_ ht ?_);refine mh (Vo hTs ?_);refine mh (iR hs pl pu ?_);have hno : ¬ ((((jl items.size 0 lo) : Int) == 0 && (1 : Int) == 1 && (jl items.size items.size hi - jl items.size 0 lo) == items.size) = true) := by
    simp_all
  show SD _ _ (if (((jl _ 0 lo) : Int) == 0 && (1) == 1 && (jl _ _ hi - jl _ 0 lo) == items.size) = true then _ else _) _ _ s;rw [if_neg hno, E1]
  first
    | exact mh (UB (Sg ⟨_, rfl, Sg h⟩) htake)
    | exact mh _
    | exact mh _
    | exact mh _
end
end _H
namespace _L
open PySem PySem.Spec PyProof.Rows
section
variable{a b:Tr}{pos:Pos}
theorem pX(its:List RZ) n j u:Tu (·.setIfInBounds j u) { cls:= .type "list",data:= .seq its.toArray n}={ cls:= .type "list",data:= .seq (its.set j u).toArray n}:=by
 simp[Tu]
theorem sX(its:List RZ) lo hi:slicePick its.toArray lo hi ox=((its.drop (_H.jl its.length 0 lo)).take (_H.jl its.length its.length hi - _H.jl its.length 0 lo)).toArray:=by
 obtain⟨h1,h2,h3⟩:=uH lo hi _;unfold slicePick;rw[h1,h2,h3];simp only[sliceRange_one,pick_run]<;>rfl
variable{o e:Tr}{es:List Tr}{name:Str}{apos cpos:Pos}{T id:String}
end
theorem foldl_rep(its:List RZ): ∀ k acc,
  Z7 (λx1 x2=>x1++x2) acc.toArray (Sz k its.toArray)=(acc++(Sz k its).flatten).toArray
 | 0,acc=>by simp
 | k+1,acc=>by
  have e:acc.toArray++its.toArray=(acc++its).toArray:=by simp
  have e2:(acc++its)++(Sz k its).flatten=acc++(Sz (k+1) its).flatten:=by
   rw[VR,XN,R7]
  rw[<- e2,<- foldl_rep its k _,<- e,VR,List.foldl_cons]
end _L
namespace _A
open PySem PySem.W PySem.Calls PyProof.Rows
end _A
namespace _L
open PySem PySem.Spec PyProof.Rows
end _L
open PySem PySem.W PyProof.Rows
namespace _L
open PySem PySem.Spec PyProof.Rows
def OS i:= ∀ ov iv,WO i false ov iv=Kb [ov,iv] (WI ov iv)
theorem aaB{id} 
    (hl : YN (.type T) "__getitem__" = pure (fI (.builtin id))) (hs : OS slice)
    (h : SD (SN prog w) A (Wm value env) (λo s₁ => SD (SN prog w) A (Wm slice env) (λi s₂ => s₂.TypeIs o T /\ SD (SN prog w) A (WI o i) Q E s₂) E s₁) E s) :
    SD (SN prog w) A (Wm (.Subscript value slice pos) env) Q E s := by
  refine Subscript_ (Ub h (λo s₁ h₁ => Ub h₁ (λi s₂ h₂ => ?_) λ_ _ x => x) λ_ _ x => x);obtain ⟨hT, h₂⟩ := h₂;refine mh ?_;refine mh (WZ hT hl ?_);have fin : SD (SN prog w) A (WO slice false o i) (λr s₃ => SD (SN prog w) A (letTemporaryGo value o r >>= λ_ => pure r) Q E s₃) E s₂ := by
    rw [hs o i];exact wpAny_operating (Ub h₂ (λr s₃ h₃ => mh (wpAny_letTemporaryGo (Sg h₃))) λ_ _ x => x)
  first
    | exact Sg (mh fin)
    | exact mh _
    | exact mh fin
end _L
namespace _L
open PySem PySem.Spec PyProof.Rows
end _L
namespace _L
open PySem PySem.Spec PyProof.Rows
noncomputable def RO:List RZ:=[.type "ValueError",.type "Exception",.type "BaseException",.type "object"]
noncomputable def N2 l:=l == (l.filterMap λv=>match v with | .ref a=>fI a | _=>ox).map TZ++RO
structure Qm(K:Sy)(C:Sl):Prop where
 mro: ∃ cd,PySem.W.clsIn K C=fI cd/\N2 cd.mro=true
 hd:EP K C=true
 ob:ZW K C (.type "object")=fI true
 bx:ZW K C (.type "BaseException")=fI true
 sa:UR K (.ref C) "__setattr__" =fI (fI (.builtin "object.__setattr__"))
 ga:UR K (.ref C) "__getattribute__" =fI (fI (.builtin "BaseException.__getattribute__"))
 gt:UR K (.ref C) "__getattr__" =fI ox
end _L
namespace _L
open PySem PySem.Spec PyProof.Rows
end _L
namespace _L
open PySem PySem.Spec PyProof.Rows
end _L
namespace _L
open PySem PySem.Spec PyProof.Rows
structure RG(K:Sy)(L:Sl):Prop where
 cls: ∃ dd cd sl,K.lookup L=fI ⟨.type "type",dd,.cls cd,sl⟩
 bx:ZW K L (.type "BaseException")=fI true
end _L
namespace _L
open PySem PySem.Spec PyProof.Rows
theorem nQ{h h':SM}(k: ∀ b o,h.get? b=fI o->h'.get? b=fI o):h.get? h'.objs.size=ox:=by
 cases q:h.get? h'.objs.size with
 | none=>rfl
 | some o=>exact absurd (Su (k _ _ q)) (TF _)
section
variable{prog:SP}{w:Tp}{A:TP}{E:RZ->R8->Prop}{s:R8}
theorem nj{a:Sl}{vs:List RZ}{ss:List Str}{n:Nat}{Q:RZ->R8->Prop}(ho:s.heap.get? a=fI (VJ "list" vs.toArray n))(hS:Xb vs ss)(h64:vs.length < 64)
  (h: ∀(out:Array RZ)(ss':List Str),Xb out.toList ss'->ss'.Perm ss->QN ss'=true->Q .none { s with heap:=Xn s.heap a vs out}) :
  SD (SN prog w) A (call (.builtin "list.sort") [.ref a]) Q E s:=by
 refine Ua Zi ⟨_,ho,rfl⟩ Y6 (list_sort_treeK strKind_oneLt ho hS.keysOf (λv₁ v₂ rest e=>keyKind_strs (by rw[<- e];exact hS)) h64 λst' hp hs=>⟨_,rfl,?_⟩) (Zj _);have z:=sorted_out_str hS hp hs;exact h _ z.choose z.choose_spec.1 z.choose_spec.2.1 z.choose_spec.2.2
theorem aal{T:String}{r d:Sl}{n:Nat}{P:Nat->RZ->Prop}{OK:SM->Prop}{Q:RZ->R8->Prop}(K:PySem.W.KdlSrc prog w T r d n P OK)(hh:A.handled=ox)(hok:OK s.heap)(hn:n<=sizeLine)
  (h: ∀(D:Sl)(h':SM)(tk:Nat)(vs:List RZ),(∀ b o,s.heap.get? b=fI o->h'.get? b=fI o)->h'.get? D=fI (VJ "list" vs.toArray 0)->s.heap.get? D=ox->vs.length=n->(∀(j:Nat)(v:RZ),vs[j]?=fI v->P j v) ->
   SD (SN prog w) A.in1 (call (.builtin "list.sort") [.ref D]) (λ_ z=>Q (.ref D) z) E { s with heap:=h',toks:=tk}):SD (SN prog w) A (call (.builtin "sorted") [.ref r]) Q E s:=by
 refine VP LP yH GR (MZ (.ref r)) ?_;refine mh (m:=checkCount "sorted" 1 1 [TZ r].length) (Sg (mh (PySem.W.kdu_collect (A:=A.in1) K hh hok hn λh' tk acc hk hacc=>?_)));have many:=Tw.trans hacc.1;refine mh (WK (mh (Tv (Ub (h h'.objs.size (h'.push { cls:= .type "list",data:= .seq acc.toList.toArray}) tk acc.toList (λb o e=>Sa _ (hk b o e)) (Sv _ rfl) (nQ hk) many
  λj v e=>hacc.2 j v (WB ▸ e)) (λ_ z q=>Sg (QW _ (Yx rfl q))) λ_ _ e=>e))) (many ▸ hn))
end
theorem Gg{P:Nat->RZ->Prop}: ∀{ss:List Str}{vs:List RZ},vs.length=ss.length->(∀(j:Nat)(v:RZ)(x:Str),vs[j]?=fI v->ss[j]?=fI x-> ∃ t,v=Ka x t)->Xb vs ss:=by
 intro ss
 induction ss with
 | nil =>
  intro vs hl h
  cases vs with
  | nil=>exact .nil
  | cons v vs=>cases hl
 | cons x r ih =>
  intro vs hl h
  cases vs with
  | nil=>cases hl
  | cons v vs =>
   obtain⟨t,rfl⟩:=h 0 v x rfl rfl
   exact .cons x t (ih (by simpa using hl) λj v y e1 e2=>h (j+1) v y (by simpa using e1) (by simpa using e2))
end _L
namespace _L
open PySem PySem.Spec PyProof.Rows
structure RW(K:Sy)(C:Sl):Prop where
 cl:Qm K C
 ca:UR K (.ref C) "__class__" =fI (fI (.builtin "object.__class__"))
end _L
namespace _L
open PySem PySem.Spec PyProof.Rows
section
variable{prog:SP}{w:Tp}{A:TP}{E:RZ->R8->Prop}{s:R8}
theorem su:YN (.type "tuple") "keys" =pure ox:=am_miss_of_fast (by rfl)
set_option maxHeartbeats 4500000 in
set_option maxRecDepth 9000 in
theorem sD{a:Sl}{o:Obj}{xs:Array RZ}{k:Nat}{Q:Option RZ->R8->Prop}
  (hx:s.heap.get? a=fI o) (hc:o.cls= .type "tuple") (hdat:o.data= .seq xs k) (hd:o.dict=ox) (hA:A.handled=ox)
  (h: ∀ h' tk,(∀ b o,s.heap.get? b=fI o->h'.get? b=fI o)->Q ox { s with heap:=h',toks:=tk}):SD (SN prog w) A (getAttr? (.ref a) "keys") Q E s:=by
 obtain⟨c,bu,dat,sl⟩:=o;simp only at hc hdat hd;subst hc hdat hd;obtain⟨h0,gs,dr,t0,o0⟩:=s;have hT: ∀ k,(Shared.mk h0 gs dr k o0).TypeIs (.ref a) "tuple" :=λ_=>QW _ (Yx hx rfl);have f1:=sub_AttributeError;have f3:=F.slot_tuple_getattribute.lookup;have f4:=F.slot_tuple_getattribute.bind (.ref a);have f5:=am_tuple_getattr_none;unfold getAttr?;unfold getAttrBy?;unfold getAttrBy
 repeat (any_goals (first | assumption | exact hT _ | ((with_reducible show SD _ _ (call (Value.builtin "tuple.__getattribute__") _ _) _ _ _);refine US F.slot_tuple_getattribute (hT _) am_entry_tuple_getattribute (F.args_tuple_getattribute_2 _ _) (meets_getattribute_miss_tuple a xs k sl "keys" _ su (by decide +kernel)) ⟨hx,hA,λh' tk' e hx'=>?_⟩) | wp_step))
 obtain⟨_,_,he⟩:=hx'.there
 with_reducible_and_instances unfold getattributeRaised
 repeat (any_goals (first | exact he | assumption | wp_step))
 exact h _ _ λb o e=>hx'.keeps b o e
end
end _L
namespace _L
open PySem PySem.Spec PyProof.Rows
section
variable{prog:SP}{w:Tp}{A:TP}{E:RZ->R8->Prop}{s:R8}
theorem gZ:entryFor table "dict.update.loop" =fI Vc.«dict.update.loop» :=entryFor_of_tree (by kernel_rfl)
theorem cO:plainId "dict.update.loop" =true:=by decide +kernel
theorem Nk[Decidable c](hc:c)(h:SD M A m Q E s):SD M A (if c then m else m') Q E s:=by rw[if_pos hc];exact h
def nP prog w (h:SM) (v:RZ) (kv:Key × RZ):= ∃ b o kx n,v= .ref b/\h.get? b=fI o/\o.cls= .type "tuple" /\o.data= .seq #[kx,kv.2] n/\(bg prog w).is kv.1 kx=true
theorem nP.keeps(x:nP prog w h v kv)(k: ∀ b o,h.get? b=fI o->o.cls= .type "tuple" ->h'.get? b=fI o):nP prog w h' v kv :=
 by obtain⟨b,o,kx,n,e,g,c,d,r⟩:=x;exact⟨b,o,kx,n,e,k b o g c,c,d,r⟩
theorem vT{R:vD->R8->Prop}{it tp d:Sl}{items:Array RZ}{kvs:List (Key × RZ)}{res:RZ}(hh:A.handled=ox)(hne:tp≠it)(hdi:d≠it)(hdt:d≠tp)(hl:kvs.length=items.size)(hz:items.size < sizeLine) :
  ∀(k i:Nat)(ii:Int)(s:R8)(acc:List (Key × RZ)),items.size - i=k->i<=items.size->acc.length<=i->s.heap.IsTupleIter it tp i->s.heap.IsTuple tp items->s.heap.DictOf (bg prog w) d acc->(∃ od,s.heap.get? d=fI od/\od.cls= .type "dict")->(∃ oi,s.heap.get? it=fI oi/\oi.cls= .type "tuple_iterator") ->
   (∀(j:Nat)(v:RZ)(kv:Key × RZ),items[j]?=fI v->kvs[j]?=fI kv->nP prog w s.heap v kv) ->
   (∀ s' ,s'.heap.DictOf (bg prog w) d (Z8 acc (kvs.drop i))->(∃ h' tk,s'={ s with heap:=h',toks:=tk})->(∀ b o,b≠d->b≠it->s.heap.get? b=fI o->s'.heap.get? b=fI o)->R (.ok (.ret res)) s') ->
   WJ (SN prog w) A (.builtin "dict.update.loop" ⟨[.ref d,.ref it,.int ii 0,res],[]⟩) R s:=by
 have W:=Walks.tuple (prog:=prog) (w:=w) (A:=A.in1) hh it tp hne items;intro k
 induction k with
 | zero =>
  intro i ii s acc hk hi hac hit htp hd hdc hic hP hR
  obtain rfl:i=items.size:=V3 hi (by omega)
  refine Vw gZ ?_
  rw[WR cO _]
  show SD _ A.in1 (X4 (.ref it) >>= _) _ _ s
  refine mh (W.done s _ _ ⟨hit,htp⟩ λh' tk keep=>?_)
  refine Sg (hR _ ?_ ⟨h',tk,rfl⟩ λb o _ hb e=>keep b o (by simpa using hb) e)
  rw[UG (by omega)]
  exact hd.at λo e=>keep d o (by simpa using hdi) e
 | succ k ih =>
  intro i ii s acc hk hi hac hit htp hd hdc hic hP hR
  have hlt:=Nat.lt_of_le_of_ne hi (by omega)
  refine Vw gZ ?_
  rw[WR cO _]
  show SD _ A.in1 (X4 (.ref it) >>= _) _ _ s
  refine mh (W.item i s _ _ hlt ⟨hit,htp⟩ λv h' tk hv hst keep=>?_)
  have hkv:i < kvs.length:=by omega
  obtain⟨b,o,kx,n,rfl,hb,hc,hdat,his⟩:=hP i v kvs[i] hv (by simp[hkv])
  have hbi:b≠it:=λz=>by
   obtain⟨oi,e1,e2⟩:=hic;rw[z,e1] at hb;cases hb;rw[e2] at hc;exact absurd hc (by decide)
  have hb':=keep b o (by simpa using hbi) hb
  have hT:(({ s with heap:=h',toks:=tk}:R8)).TypeIs (.ref b) "tuple" :=⟨o,hb',hc⟩
  have hd':=hd.at λo e=>keep d o (by simpa using hdi) e
  dsimp only
  refine mh (Tv (mh (wpAny_tryCatch ?_)))
  unfold Builtin.Dict.pairItems
  refine mh (Vo hT (Nk (by decide) (mh (T7 hb' hdat (Sg ?_)))))
  refine Tv (wpAny_dictSet_pairs (hsz:=by omega) his hd' λh'' dd hs=>?_)
  obtain⟨od,hod,hodc⟩:=hdc
  have keep2:=λb o h1 h2 e=>(hs.2 b h1).trans (keep b o (by simpa using h2) e)
  refine Sg ⟨X7 cO _,?_⟩
  refine ih (i+1) (ii+1) _ (Z9 acc kvs[i].1 kvs[i].2) (by omega) hlt (Sx (stored_length_le _ _ _) (by omega)) (hst.1.at λo e=>(hs.2 it (VC hdi)).trans e) (htp.at λo e=>keep2 tp o (VC hdt) hne e) dd ?_ ?_ ?_ ?_
  . obtain⟨q,es,ep,e1,e2,_⟩:=dd;exact⟨q,e1,e2.1⟩
  . obtain⟨oi,e1,e2,_⟩:=hst.1;exact⟨oi,(hs.2 it (VC hdi)).trans e1,e2⟩
  . intro j v kv e1 e2;refine(hP j v kv e1 e2).keeps λb' o' e3 e4=>keep2 b' o' (λz=>?_) (λz=>?_) e3
    . rw[z,hod] at e3;cases e3;rw[hodc] at e4;exact absurd e4 (by decide)
    . obtain⟨oi,f1,f2⟩:=hic;rw[z,f1] at e3;cases e3;rw[f2] at e4;exact absurd e4 (by decide)
  . rintro s' dd' ⟨h3,tk3,rfl⟩ keep3;refine hR _ ?_ ⟨h3,tk3,rfl⟩ λb o h1 h2 e=>keep3 b o h1 h2 (keep2 b o h1 h2 e);have e:=UY hkv;rw[e];exact dd'
theorem sd{p:Sl}{o:Obj}{items:Array RZ}{n:Nat}{kvs:List (Key × RZ)}{Q:RZ->R8->Prop}(hh:A.handled=ox)(hb:U9 < s.heap.objs.size)(hp:s.heap.get? p=fI o)(hc:o.cls= .type "tuple")(hdt:o.data= .seq items n)(hdn:o.dict=ox)
  (hl:kvs.length=items.size) (hz:items.size < sizeLine) (hP: ∀(j:Nat)(v:RZ)(kv:Key × RZ),items[j]?=fI v->kvs[j]?=fI kv->nP prog w s.heap v kv)
  (h: ∀ h' tk,h'.DictOf (bg prog w) s.heap.objs.size (Z8 [] kvs)->(∀ b o,s.heap.get? b=fI o->h'.get? b=fI o)->Q (.ref s.heap.objs.size) { s with heap:=h',toks:=tk}) :
  SD (SN prog w) A (call (.type "dict") [.ref p]) Q E s:=by
 refine Zr (Q₁ :=λz u=>z= .ref s.heap.objs.size/\u={ s with heap:=s.heap.push { cls:= .type "dict",data:= .dict #[]}}) F.kt_called_dict (F.kt_typeCall_dict_1 _) F.entry_dict_init (kt_code_dict_new _ ⟨rfl,rfl⟩) ?_;rintro obj s₁ ⟨rfl,rfl⟩;have up: ∀ b o,s.heap.get? b=fI o->(s.heap.push { cls:= .type "dict",data:= .dict #[]}).get? b=fI o:=λb o e=>Sa _ e;have hnew:(s.heap.push { cls:= .type "dict",data:= .dict #[]}).DictOf (bg prog w) s.heap.objs.size []:=W3 s.heap;have hp1:=up _ _ hp;refine⟨hnew.typeIs,F.args_dict_init_2 (.ref s.heap.objs.size) (.ref p),?_⟩
 with_unfolding_all refine mh (m:=X8 _ _) (mh (Zc hnew.typeIs (Sg ?_)))
 show SD _ _ (Builtin.Dict.updateFrom "dict.__init__" s.heap.objs.size (.ref p) [] .none) _ _ _;refine mh (Vo (T:= "tuple") ⟨o,hp1,hc⟩ ?_);refine mh (sD hp1 hc hdt hdn hh λh1 tk1 k1=>?_);refine mh (V6 ?_);have htp1:h1.IsTuple p items:=⟨o,k1 _ _ hp1,hc,n,hdt⟩
 refine mh (Ux htp1 ?_);have up2: ∀ b o,h1.get? b=fI o->(h1.push { cls:= .type "tuple_iterator",data:= .fields #[.ref p,.int 0 0]}).get? b=fI o:=λb o e=>Sa _ e;have hd1:=k1 _ _ (Sv _ rfl);have hpl:=Su (k1 _ _ hp1);have hdl:=Su hd1;have hps:=Su hp;refine Sg ⟨X7 cO _,?_⟩;refine vT (A:=A.in1) (it:=h1.objs.size) (tp:=p) (kvs:=kvs) hh (SW hpl) (SW hdl) (TB hps) hl hz items.size 0 0 _ [] rfl (SX _) (Si _) ⟨_,Sv _ rfl,rfl,rfl⟩ (htp1.push _) ?_ ⟨_,up2 _ _ hd1,rfl⟩ ⟨_,Sv _ rfl,rfl⟩ ?_ ?_
 . exact(hnew.at λo e=>up2 _ o (k1 _ o e))
 . exact λj v kv e1 e2=>(hP j v kv e1 e2).keeps λb o e _=>up2 b o (k1 b o (up b o e))
 . rintro s' dd ⟨h3,tk3,rfl⟩ keep3;refine⟨rfl,h h3 tk3 (by simp_all) λb o e=>keep3 b o (SW (Su e)) (SW (Su (k1 _ _ (up _ _ e)))) (up2 _ _ (k1 _ _ (up _ _ e)))⟩
end
end _L
namespace _L
open PySem PySem.Spec PyProof.Rows
theorem Jw.args{K st}{ps:List Str}(F:Jw K x qual st f fd)
  (h: ∀ kV doc pm an cdv ct us,us.length=ps.length->Bd (VN x qual (ji st) (fT st) (bI st) .none kV doc pm an cdv ct) ⟨us,[]⟩=pure (ps.zip us)): ∀ us ,us.length=ps.length->Bd fd ⟨us,[]⟩=pure (ps.zip us):=by
 obtain⟨oc,od,kV,doc,pm,an,cdv,ct,osl,rfl,lk,hcd⟩:=F.ex;exact h kV doc pm an cdv ct
structure Bl(mg:Str->Option RZ):Prop where
 len:mg "len" =ox
 range:mg "range" =ox
 isinstance:mg "isinstance" =ox
 int:mg "int" =ox
 bool:mg "bool" =ox
 tuple:mg "tuple" =ox
 dict:mg "dict" =ox
 sorted:mg "sorted" =ox
 min:mg "min" =ox
 max:mg "max" =ox
 abs:mg "abs" =ox
end _L
namespace _L
open PySem PySem.Spec PyProof.Rows
end _L
namespace _L
open PySem PySem.Spec PyProof.Rows
noncomputable def MY(w:Tp)(p:Str × Tok × RZ):DictEntry:={ hash:=PyData.keyHash w.params p.1,key:= .str p.1 p.2.1,val:=p.2.2}
theorem ud{s:R8}{h':SM}(hk: ∀ b x,b ∉ [s.heap.objs.size]->(s.heap.push o).get? b=fI x->h'.get? b=fI x): ∀ b x,s.heap.get? b=fI x->h'.get? b=fI x :=
 λb x e=>hk b x (by intro z;rw[Sf.mp z] at e;exact absurd (Su e) (TF _)) (Sa _ e)
end _L
namespace _L
open PySem PySem.Spec PyProof.Rows
theorem r7 l o b u :
  MF (Vc.«dict.__eq__» ⟨[.ref l,.str b u],[]⟩) (λ_ R s=>s.heap.get? l=fI o/\R (.ok (.ret .notImplemented)) s) :=
 .of_wp λprog w A R s h=>by
  obtain⟨hl,h⟩:=h;have f1:=Zt;wp_walk;exact⟨_,rfl,h⟩
theorem vr b u l c es ep dd sl :
  MF (Vc.«str.__eq__» ⟨[.str b u,.ref l],[]⟩) (λ_ R s=>s.heap.get? l=fI { cls:=c,dict:=dd,data:= .dict es ep,slots:=sl}/\R (.ok (.ret .notImplemented)) s) :=
 .of_wp λprog w A R s h=>by obtain⟨hl,h⟩:=h;wp_walk using TX hl,VG hl;exact⟨_,rfl,h⟩
theorem vR b u (hl:s.heap.get? l=fI o) (hx:o.ExactDict) (hd:o.data= .dict es ep) (hu:A.units < Zn):SeqAt.RcAt A s (.ref l) (.str b u) false:=λprog w E Q h=>by
 obtain⟨cls,dd,data,sl⟩:=o;have hc:=hx.1;subst hc hd;exact SeqAt.rc_eq_decline_or ⟨_,hl,rfl⟩ (typeIs_str s b u) (by decide) Zt Zu X9
  (λ_ hq=>US Zu ⟨_,hl,rfl⟩ PySem.F.entry_dict_eq (PySem.F.args_dict_eq_2 _ _) (r7 l _ b u) ⟨hl,hq⟩)
  (λ_ hq=>US X9 (typeIs_str s b u) PySem.F.entry_str_eq (PySem.F.args_str_eq_2 _ _) (vr b u l _ es ep dd sl) ⟨hl,hq⟩)
  (λ_ z=>wpAny_of_eq (show isSame _ _=pure false from rfl) z) (.inr hu) h
theorem oA:fillsNumberSlot (.type "tuple") "mul" =pure false :=
 PySem.fillsNumberSlot_seq UH.lookup (by rfl) Yz.lookup (by rfl)
theorem vA:seqRepeat? (.type "tuple")=pure (fI (.builtin "tuple.__mul__")):=by
 unfold seqRepeat?;rw[O0 (name:= "__mul__") UH.lookup (by rfl),O0 (name:= "__rmul__") Yz.lookup (by rfl)];rfl
theorem qD a t l items n dd sl :
  MF (Vc.«int.__rmul__» ⟨[.int a t,.ref l],[]⟩) (λ_ R s=>s.heap.get? l=fI { cls:= .type "tuple",dict:=dd,data:= .seq items n,slots:=sl}/\R (.ok (.ret Value.notImplemented)) s) :=
 .of_wp λprog w A R s h=>by obtain⟨hl,h⟩:=h;wp_walk using TX hl,VG hl;exact⟨_,rfl,h⟩
theorem sF{prog:SP}{w:Tp}{A:TP}{E:RZ->R8->Prop}{s:R8}{t sl:Sl}{items:Array RZ}{vl vu:RZ}{lo hi:Option Int}{Q:RZ->R8->Prop}(ht:Wl s.heap t items)(hs:s.heap.IsSliceOf sl vl vu .none)(pl:YM vl lo)(pu:YM vu hi)
  (hw:_H.jl items.size 0 lo=0/\_H.jl items.size items.size hi=items.size) (h:Q (.ref t) s):SD (SN prog w) A (WI (.ref t) (.ref sl)) Q E s:=by
 obtain⟨os,hos,hcs,hds⟩:=id hs;have hTs:s.TypeIs (.ref sl) _:=⟨os,hos,hcs⟩
 unfold WI
 try with_reducible refine Tv ?_
 refine mh (wpAny_sequenceKey ht.typeIs (by decide) ?_);refine mh (TN ht.typeIs TR
  (Ua TR ht.typeIs ZO ?_ (Z6 _ _)))
 show SD _ _ (Xm _ >>= _) _ _ s;refine mh (tupleItemsOf_ ht ?_);refine mh (Vo hTs ?_);refine mh (_H.iR hs pl pu ?_);show SD _ _ (if (((_H.jl _ 0 lo):Int) == 0&&(1) == 1&&(_H.jl _ _ hi - _H.jl _ 0 lo) == items.size)=true then _ else _) _ _ s;rw[if_pos (by simp_all)];refine mh (mh (Vo ht.typeIs (Sg ?_)));exact mh (V6 (Sg ⟨_,rfl,Sg h⟩))
end _L
namespace _L
open PySem PySem.Spec PyProof.Rows
theorem qm{α :Type}{cmp:Nat->Nat->(Bool->R8->Prop)->R8->Prop}{n:Nat}{c:Nat->Nat->Bool}{s:R8}(hc: ∀ i j C,i < n->j < n->i≠j->C (c i j) s->cmp i j C s){Q: α ->R8->Prop} :
  ∀ t:KasT α,CG n c t=true->Q (yd c t) s->t.kasWp cmp Q s
 | .ret a,_,q=>q
 | .ask i j k,h,q=>by
  simp only[CG,Sr,decide_eq_true_eq,Tt,decide_eq_false_iff_not] at h;exact hc i j _ h.1.1.1 h.1.1.2 h.1.2 (qm hc (k (c i j)) h.2 q)
section
variable{prog:SP}{w:Tp}{A:TP}{E:RZ->R8->Prop}{s:R8}
noncomputable def dy(h:SM) a (vs:List RZ):=((h.update a (Tu λ_=>(#[]))).push (VJ "tuple" vs.toArray 0)).push (VJ "list" #[] 0)
theorem rF(hb:b < h.objs.size):(dy h a vs).get? b=(h.update a (Tu λ_=>(#[]))).get? b :=
 (Wt _ _ _ (SW (Xo (Uc hb) ((size_push' _ _).trans (congrArg (· +1) (WH _ _ _))).symm))).trans
  (Wt _ _ _ (SW (Xo hb (WH _ _ _).symm)))
theorem vP(hb:b≠a)(e:h.get? b=fI o):(dy h a vs).get? b=fI o :=
 (rF (Su e)).trans ((ZP _ _ _ _ hb).trans e)
theorem jD{vs:List RZ}(h:vs.length < 64):vs.length<=sizeLine:=Sx (Vl h) (by decide)
theorem sq{a:Sl}{vs:List RZ}{n:Nat}{P:GU->R8->Prop}{κ :Zv}{G:Array Nat->Prop}(ho:s.heap.get? a=fI (VJ "list" vs.toArray n))(h64:vs.length < 64)
  (hk:2<=vs.length-> ∀ Q':Zv->R8->Prop,Q' κ { s with heap:=dy s.heap a vs}->SD (SN prog w) A (Qx vs.toArray) Q' E { s with heap:=dy s.heap a vs})
  (ha:2<=vs.length-> ∀ Q':Array Nat->R8->Prop,(∀ p,G p->Q' p { s with heap:=dy s.heap a vs})->(UP vs.length).kasWp (N4 prog w A κ vs) Q' { s with heap:=dy s.heap a vs})
  (h0:vs.length < 2->P (.done (.ret .none)) { s with heap:=Xn s.heap a vs vs.toArray})
  (h: ∀ p:Array Nat,p.size=vs.length->G p->P (.done (.ret .none)) { s with heap:=Xn s.heap a vs (p.toList.map λi=>vs.getD i Tx).toArray}):SD (SN prog w) A (Vc.«list.sort» ⟨[.ref a],[]⟩) P E s:=by
 obtain⟨ep,g1⟩: ∃ k,(s.heap.update a (Tu λ_=>(#[]))).get? a=fI (VJ "list" #[] k):=⟨_,get?_update_seq ho λ_=> #[]⟩
 have g2:(dy s.heap a vs).get? a=fI (VJ "list" #[] ep):=(rF (Su ho)).trans g1;have z:=Ss (as:=vs);rw[list_sort_plain];refine mh (LU ho rfl (mh (Ya ho rfl (mh (FP g1 rfl (mh (Zw (mh (WK (Tv ?_) (SX _))) (jD h64))))) (z ▸ jD h64) (SX _))));show SD (SN prog w) A _ P E { s with heap:=dy s.heap a vs};dsimp only;have last: ∀ out:Array RZ,out.size<=sizeLine->P (.done (.ret .none)) { s with heap:=Xn s.heap a vs out}->P (.done (.ret .none)) { s with heap:=(dy s.heap a vs).update a (Tu λ_=>out)}:=λ_ _ q=>q;rcases TJ vs.toArray.size 2 with c | c
 . rw[if_pos c,if_pos c];have e:(arrOf (SortSt.mk' general' (vs.toArray.zip vs.toArray) #[] 7 ox)).map (·.2)=vs.toArray:=by
    apply Pw.mp;rw[Array.toList_map,Array.toList_zip];exact List.map_snd_zip (Si _)
   refine mh (m:=pure general') (Sg ?_);refine mh (Sg (mh (FP g2 rfl (mh (Ya g2 rfl ?_ (SX _) (hsz2:=by rw[e,z];exact U3 (jD h64)))))));rw[if_neg (by simp)];refine Sg ?_;rw[e];exact last _ (by rw[z];exact jD h64) (h0 (z ▸ c))
 . rw[if_neg (Uq.mpr c),if_neg (Uq.mpr c)];have c':=z ▸ c;have run:=kat_run (E:=E) (ks:=vs) (vs:=vs) (Q:=λst u=>u={ s with heap:=dy s.heap a vs}/\ ∃ p ,p.size=vs.length/\arrOf st=p.map (kas_item (vs.toArray.zip vs.toArray))/\failedOf st=ox/\G p)
    (G:=λp u=>u={ s with heap:=dy s.heap a vs}/\G p) rfl c' h64 (λp st u b1 b2 b3 b4=>⟨b4.1,p,b1,b2,b3,b4.2⟩) (ha c' _ λp g=>⟨rfl,g⟩)
   refine mh (hk c' _ (mh (Ub run (λr u x=>?_) λ_ _ x=>x)));obtain⟨⟨⟩,st⟩:=r;obtain⟨rfl,p,hp,har,hf,g⟩:=x;have el:(List.toArray (p.toList.map λi=>vs.getD i Tx)).size<=sizeLine:=by rw[Ss,xn,Tw,hp];exact jD h64
   rw[kat_snds rfl har,hf];refine mh (FP g2 rfl (mh (Ya g2 rfl ?_ (SX _) (U3 el))));rw[if_neg (by simp)];exact Sg (last _ el (h p hp g))
abbrev mT(h:SM)(vs:List RZ):SM:=((h.push (VJ "list" #[] 0)).update h.objs.size (Tu (· ++vs.toArray))).push (VJ "list" vs.toArray 0)
theorem gc(h:SM)(vs:List RZ):((h.push (VJ "list" #[] 0)).update h.objs.size (Tu (· ++vs.toArray))).objs.size=h.objs.size+1:=(WH _ _ _).trans (size_push' _ _)
theorem jQ h vs:(mT h vs).get? (h.objs.size+1)=fI (VJ "list" vs.toArray 0):=(gc h vs) ▸ Sv _ rfl
theorem xI(e:h.get? b=fI o):(mT h vs).get? b=fI o:=by
 have l:=Su e;have z:=gc h vs;exact(Wt _ _ _ (SW (Xo (Uc l) z.symm))).trans ((ZP _ _ _ _ (SW l)).trans ((Wt _ _ _ (SW l)).trans e))
theorem qE{l:Sl}{vs:List RZ}{Q:RZ->R8->Prop}{κ :Zv}{G:Array Nat->Prop}(hl:s.heap.IsList l vs.toArray)(h64:vs.length < 64)
  (hk: ∀ h':SM,(∀ b o,s.heap.get? b=fI o->h'.get? b=fI o)->2<=vs.length-> ∀ Q':Zv->R8->Prop,Q' κ { s with heap:=h'}->SD (SN prog w) A.in1.in1 (Qx vs.toArray) Q' E { s with heap:=h'})
  (ha: ∀ h':SM,(∀ b o,s.heap.get? b=fI o->h'.get? b=fI o)->2<=vs.length-> ∀ Q':Array Nat->R8->Prop,(∀ p,G p->Q' p { s with heap:=h'})->(UP vs.length).kasWp (N4 prog w A.in1.in1 κ vs) Q' { s with heap:=h'})
  (h0:vs.length < 2->Q (.ref (s.heap.objs.size+1)) { s with heap:=Xe s.heap vs vs.toArray})
  (h: ∀ p:Array Nat,p.size=vs.length->G p->Q (.ref (s.heap.objs.size+1)) { s with heap:=Xe s.heap vs (p.toList.map λi=>vs.getD i Tx).toArray}):SD (SN prog w) A (call (.builtin "sorted") [.ref l]) Q E s:=by
 have kp: ∀ b o,s.heap.get? b=fI o->(dy (mT s.heap vs) (s.heap.objs.size+1) vs).get? b=fI o:=λb o e=>vP (SW (Uc (Su e))) (xI e);refine VP LP yH GR (MZ (.ref l)) ?_;refine mh (m:=checkCount "sorted" 1 1 [TZ l].length) (Sg (mh (collect_list hl (mh (WK ?_ (jD h64))) (jD h64))));show SD _ _ _ _ _ { s with heap:=mT s.heap vs};rw [gc];refine mh (Tv (Ua Zi ⟨_,jQ s.heap vs,rfl⟩ Y6 (sq (G:=G) (κ := κ) (jQ s.heap vs) h64 (hk _ kp) (ha _ kp) (λc=>⟨_,rfl,?_⟩) λp hp g=>⟨_,rfl,?_⟩) (Zj (.ref (s.heap.objs.size+1)))))
 . exact Sg ⟨_,rfl,h0 c⟩
 . exact Sg ⟨_,rfl,h p hp g⟩
end
def Gy(h:SM)(v:RZ)(q:Str × Int):= ∃ b o k t u,v= .ref b/\h.get? b=fI o/\o.cls= .type "tuple" /\o.data= .seq #[.str q.1 t,.int q.2 u] k
theorem Gy.kept(k: ∀ b o,h.get? b=fI o->h'.get? b=fI o)(x:Gy h v q):Gy h' v q:=by obtain⟨b,o,n,t,u,e1,e2,e3,e4⟩:=x;exact⟨b,o,n,t,u,e1,k _ _ e2,e3,e4⟩
theorem Ae: ∀{vs ps},UX (Gy h) vs ps-> ∀{i},i < vs.length-> ∃ q,ps[i]?=fI q/\Gy h (vs.getD i Tx) q:=by
 intro vs ps h0
 induction h0 with
 | nil=>intro i hi;exact absurd hi (Y7 _)
 | cons hp hr ih =>
  intro i hi
  cases i with
  | zero=>exact ⟨_,rfl,hp⟩
  | succ i=>exact ih (YO hi)
theorem xw : ∀{vs ps}, UX (Gy h) vs ps -> ∃ fs, KatTups h vs fs /\ fs.length = vs.length /\ ∀ v ∈ fs, ∃ x t, v = Ka x t
  | _, _, .nil => ⟨[], .nil, rfl, λv m => by cases m⟩
  | _, _, .cons hp hr => by
    obtain ⟨fs, k, l, st⟩ := xw hr;obtain ⟨b, o, n, t, u, rfl, e1, e2, e3⟩ := hp
    exact ⟨_, .cons e1 e2 e3 rfl k, by simp [l], fun v m => by rcases List.mem_cons.mp m with rfl | m; · exact ⟨_, _, rfl⟩
                                                               . exact st v m⟩
section
variable {prog:SP} {w:Tp} {A:TP} {E:RZ->R8->Prop} {s:R8}
theorem B8{vs:List RZ}{ps:List (Str × Int)}(hp:UX (Gy s.heap) vs ps)(nd:(ps.map (·.1)).Nodup){i j:Nat}{C:Bool->R8->Prop}(hi:i < vs.length)(hj:j < vs.length)(hij:i≠j)(h:C (cS (ps.map (·.1)) i j) s):N4 prog w A (BC true) vs i j C s:=by
 obtain⟨q1,f1,b1,o1,n1,t1,u1,e1,g1,c1,d1⟩:=Ae hp hi;obtain⟨q2,f2,b2,o2,n2,t2,u2,e2,g2,c2,d2⟩:=Ae hp hj;have hne:q1.1≠q2.1:=λz=>hij ((XI (by rw[xn];exact(RY.mp f1).1) nd).mp (by simp_all));unfold N4;rw[e1,e2];refine kat_lt g1 d1 g2 d2 (Xp q1.1 t1 q2.1 t2 _ _ _ _ ?_);refine RH (by simpa using hne) ?_;refine oneLt_str ?_;have e:cS (ps.map (·.1)) i j=decide (q1.1.cps.toList < q2.1.cps.toList):=by
  unfold cS;rw[SI,SI,Sq,Sq,f1,f2];rfl
 rw[e] at h;exact h
theorem yD{vs:List RZ}{ps:List (Str × Int)}(hp:UX (Gy s.heap) vs ps)(h2:2<=vs.length){Q':Zv->R8->Prop}(q:Q' (BC true) s):SD (SN prog w) A (Qx vs.toArray) Q' E s:=by
 obtain⟨fs,k,l,st⟩:=xw hp;refine kat_kind (T:= .type "str") k (by omega) (λv m=>?_) (by decide) q;obtain⟨x,t,rfl⟩:=st v m;exact Looks.now
end
end _L
namespace _L
open PySem PySem.Spec PyProof.Rows
section
variable{prog:SP}{w:Tp}{A:TP}{E:RZ->R8->Prop}{s:R8}
theorem KN[Decidable c](hc: ¬ c)(h:SD M A m' Q E s):SD M A (if c then m else m') Q E s:=by rw[if_neg hc];exact h
theorem jg{it t:Sl}{i:Nat}{items:Array RZ}{x:RZ}{Q:RZ->R8->Prop}(hit:s.heap.IsTupleIter it t i)(ht:s.heap.IsTuple t items)(hx:items[i]?=fI x)
  (q: ∀ h',h'.IsTupleIter it t (i+1)->Xa it s.heap h'->Q x { s with heap:=h'}):SD (SN prog w) A (TS (.ref it)) Q E s:=by
 obtain⟨oi,g1,c1,d1⟩:=id hit;obtain⟨ot,g2,_,k,d2⟩:=id ht;have new:(s.heap.update it (Vy (·.setIfInBounds 1 (X5 ((i:Int)+1))))).IsTupleIter it t (i+1):=⟨_,TH _ g1 (UW (Vn d1 _)),(JX ..).trans c1,(Vn d1 _).trans (by rfl)⟩
 refine mh (TN (name:=SO "__next__") hit.typeIs Ut (Ua Ut hit.typeIs Wg ?_ (V7 (.ref it))));refine mh (m:=YB (.ref it) 0) (S7 g1 d1 (x:= .ref t) rfl (KN (λz=>by cases z) (mh (m:=YB (.ref it) 1) (S7 g1 d1 (x:= .int i 0) rfl (mh (m:=seqItems? (.ref t)) (T7 g2 d2 ?_))))));dsimp only;rw[SQ,hx];exact mh (Wo g1 d1 (by simp) (Sg ⟨x,rfl,Sg (q _ new (ZQ ..))⟩))
theorem oF{it t:Sl}{i:Nat}{items:Array RZ}{Q:RZ->R8->Prop}(hh:A.handled=ox)(hit:s.heap.IsTupleIter it t i)(ht:s.heap.IsTuple t items)(hx:items[i]?=ox)
  (q: ∀ h' e,Heap.ExtBut it s.heap h'->(∃ o,h'.get? e=fI o/\o.cls= .type "StopIteration")->E (.ref e) { s with heap:=h'}):SD (SN prog w) A (TS (.ref it)) Q E s:=by
 obtain⟨oi,g1,c1,d1⟩:=id hit;obtain⟨ot,g2,_,k,d2⟩:=id ht;refine mh (TN (name:=SO "__next__") hit.typeIs Ut (Ua Ut hit.typeIs Wg ?_ (V7 (.ref it))));refine mh (m:=YB (.ref it) 0) (S7 g1 d1 (x:= .ref t) rfl (KN (λz=>by cases z) (mh (m:=YB (.ref it) 1) (S7 g1 d1 (x:= .int i 0) rfl (mh (m:=seqItems? (.ref t)) (T7 g2 d2 ?_))))));dsimp only;rw[SQ,hx];refine mh (V6 (mh (Wo g1 d1 (by simp) (mh (m:=newExc (.type "StopIteration") []) (mh (m:=newTuple []) (UB ?_ (by size_fits)))))));refine mh (m:=firstArgMember _ _) (wpAny_of_eq (a:=Tx) (by rfl) (UB ?_ (by size_fits)));refine mh (wpAny_handled ?_);rw[show A.in1.handled=ox from hh];exact mh (Sg (wpAny_throw (q _ _ (((ZQ ..).extBut.push _).push _) ⟨_,Sv _ rfl,rfl⟩)))
structure xi(h:SM)(z TI TO i1 i2 l1 l2:Sl)(k:Nat):Prop where
 wX:Zx h z TI TO .none
 its:UZ h TI (.ref i1) (.ref i2)
 old: ∃ a b,UZ h TO a b
 one:h.IsTupleIter i1 l1 k
 two:h.IsTupleIter i2 l2 k
theorem BU{z TI TO i1 i2 l1 l2:Sl}{k:Nat}{xs ys:Array RZ}{x y:RZ}{Q:RZ->R8->Prop}(D:Wu z TI TO i1 i2 l1 l2)(Z:xi s.heap z TI TO i1 i2 l1 l2 k)(t1:s.heap.IsTuple l1 xs)(t2:s.heap.IsTuple l2 ys)(hx:xs[k]?=fI x)(hy:ys[k]?=fI y)
  (q: ∀ h',Zx h' z TI TO (X5 s.heap.objs.size)->UZ h' TI (.ref i1) (.ref i2)->UZ h' TO x y->h'.IsTupleIter i1 l1 (k+1)->h'.IsTupleIter i2 l2 (k+1)->UZ h' s.heap.objs.size x y ->
   (∀ c o,c≠z->c≠TO->c≠i1->c≠i2->s.heap.get? c=fI o->h'.get? c=fI o)->Q (.ref s.heap.objs.size) { s with heap:=h'}):SD (SN prog w) A (Vc.«zip.__next__» ⟨[.ref z],[]⟩) (λr u=> ∃ v,r= .done (.ret v)/\Q v u) E s:=by
 obtain⟨hz,hTI,⟨a,b,hTO⟩,o1,o2⟩:=Z;refine mh (m:=YB (.ref z) 2) (S7 hz rfl (x:= .bool false) rfl ?_);refine mh (m:=YB (.ref z) 3) (S7 hz rfl (x:= .ref TI) rfl (mh (T7 hTI rfl ?_)));refine mh (m:=UK (.ref z)) (mh (m:=YB (.ref z) 0) (S7 hz rfl (x:= .none) rfl (Sg (Nk rfl (mh (V6 ?_))))));refine mh (m:=YB (.ref z) 4) (S7 hz rfl (x:= .ref TO) rfl (mh (Uy hz (by simp) λu1 z1 b1=>?_)))
 replace z1:=z1
 refine mh ?_;rw[show(#[TZ i1,TZ i2]).toList.zipIdx=[(TZ i1,0),(TZ i2,1)] from rfl,Ui];refine mh (mh (WL (mh (m:=TS (.ref i1)) (jg (o1.at λo e=>b1.extBut _ _ D.i1z e) (t1.at λo e=>b1.extBut _ _ D.l1z e) hx λu2 p1 b2=>Sg ?_))));have T2:=b2.extBut _ _ D.TOi1 (b1.extBut _ _ D.TOz hTO);refine mh (T7 T2 rfl (mh (WT T2 λu3 T3 b3=>mh (Zy (Sg ?_)))))
 replace T3:=T3
 have k3: ∀ c o,c≠z->c≠TO->c≠i1->s.heap.get? c=fI o->u3.get? c=fI o:=λc o n1 n2 n3 e=>b3.extBut _ _ n2 (b2.extBut _ _ n3 (b1.extBut _ _ n1 e));dsimp only;rw[Ui];refine mh (mh (WL (mh (m:=TS (.ref i2)) (jg (o2.at λo e=>k3 _ o D.i2z D.TOi2.symm D.i12.symm e) (t2.at λo e=>k3 _ o D.l2z D.l2TO D.l2i1 e) hy λu4 p2 b4=>Sg ?_))));have T4:=b4.extBut _ _ D.TOi2 T3;refine mh (T7 T4 rfl (mh (WT T4 λu5 T5 b5=>mh (Zy (Sg ?_)))))
 replace T5:UZ u5 TO x y:=T5
 have k5:=λc o n1 n2 n3 n4 e=>b5.extBut _ _ n2 (b4.extBut _ _ n4 (k3 c o n1 n2 n3 e));have sz:=b5.1.trans (b4.1.trans (b3.1.trans (b2.1.trans b1.1)));have z5:=b5.extBut _ _ D.TOz.symm (b4.extBut _ _ D.i2z.symm (b3.extBut _ _ D.TOz.symm (b2.extBut _ _ D.i1z.symm z1)));have p15:=p1.at λo e=>b5.extBut _ _ D.TOi1.symm (b4.extBut _ _ D.i12 (b3.extBut _ _ D.TOi1.symm e));have p25:=p2.at λo e=>b5.extBut _ _ D.TOi2.symm e;have lz:=Su z5;dsimp only;rw[List.forIn_nil];refine Sg (mh (T7 T5 rfl (mh (Zw ?_ (by show 2<=sizeLine;decide)))));have z6:Zx (u5.push { cls:= .type "tuple",data:= .seq #[x,y]}) z TI TO .ellipsis:=Sa _ z5;refine mh (m:=ZR (.ref z) (.ref u5.objs.size)) (mh (Uy z6 (by simp) λu7 z7 b7=>Uy (show Zx u7 z TI TO (X5 u5.objs.size) from z7) (by simp) λu8 z8 b8=>Sg ⟨_,rfl,?_⟩));have up: ∀ c o,c≠z->u5.get? c=fI o->u8.get? c=fI o:=λc o n e=>b8.extBut _ _ n (b7.extBut _ _ n (Sa _ e));have T8:=b8.extBut _ _ (TB lz) (b7.extBut _ _ (TB lz) (Sv _ rfl))
 replace z8:=z8
 rw[sz] at z8 T8 ⊢;exact q u8 z8 (up _ _ D.TIz (k5 _ _ D.TIz D.TITO D.TIi1 D.TIi2 hTI)) (up _ _ D.TOz T5) (p15.at λo e=>up _ o D.i1z e) (p25.at λo e=>up _ o D.i2z e) T8 λc o n1 n2 n3 n4 e=>up c o n1 (k5 c o n1 n2 n3 n4 e)
theorem qp{z TI TO i1 i2 l1 l2:Sl}{k:Nat}{xs ys:Array RZ}{x y:RZ}{Q:Option RZ->R8->Prop}(D:Wu z TI TO i1 i2 l1 l2)(Z:xi s.heap z TI TO i1 i2 l1 l2 k)(t1:s.heap.IsTuple l1 xs)(t2:s.heap.IsTuple l2 ys)(hx:xs[k]?=fI x)(hy:ys[k]?=fI y)
  (q: ∀ h',Zx h' z TI TO (X5 s.heap.objs.size)->UZ h' TI (.ref i1) (.ref i2)->UZ h' TO x y->h'.IsTupleIter i1 l1 (k+1)->h'.IsTupleIter i2 l2 (k+1)->UZ h' s.heap.objs.size x y ->
   (∀ c o,c≠z->c≠TO->c≠i1->c≠i2->s.heap.get? c=fI o->h'.get? c=fI o)->Q (fI (.ref s.heap.objs.size)) { s with heap:=h'}):SD (SN prog w) A (X4 (.ref z)) Q E s :=
 have ty:=⟨_,Z.wX,rfl⟩
 mh (Yd (TN (name:=SO "__next__") ty TY (Ua TY ty Vp (BU D Z t1 t2 hx hy λh' a1 a2 a3 a4 a5 a6 a7=>Sg (q h' a1 a2 a3 a4 a5 a6 a7)) (Vh (.ref z)))))
end
end _L
end
section
open PySem PySem.W PyProof.Rows
namespace _P
open PySem PySem.Spec PyProof.Rows _L
section
variable{X:Cx}{pg:Tb}{k:Nat}
theorem dz.hu(A:dz X pg k):X.A.units+1 < Zn:=Vq (W8 (by decide) _) A.room.units
theorem Qn{g:RZ->RZ->Sem RZ}{C:Int->Int->Prop}[∀ i j,Decidable (C i j)]{n:Int->Int->Int}
  (rule: ∀(i j:Int)(t u:Tok)(s:R8)(Q:RZ->R8->Prop)(E:RZ->R8->Prop),C i j->Q (.int (n i j) s.toks) { s with toks:=s.toks+1}->SD (SN X.prog X.w) X.A (g (.int i t) (.int j u)) Q E s) :
  O2 X g (p2 λi j=>if C i j then By (.int (n i j)) else .no):=λI rx ry o=>by
 unfold p2 at o;split at o
 . obtain⟨t,rfl⟩:=rx;obtain⟨t',rfl⟩:=ry;dsimp only at o;split at o
   . exact rule _ _ _ _ _ _ _ (by assumption) (o.pure I ⟨_,rfl⟩)
   . exact o.elim
 . exact o.elim
theorem oI{g:RZ->RZ->Sem RZ}{n:Int->Int->Int}
  (rule: ∀(i j:Int)(t u:Tok)(s:R8)(Q:RZ->R8->Prop)(E:RZ->R8->Prop),Q (.int (n i j) s.toks) { s with toks:=s.toks+1}->SD (SN X.prog X.w) X.A (g (.int i t) (.int j u)) Q E s) :
  O2 X g (p2 λi j=>By (.int (n i j))):=λI rx ry o=>by
 unfold p2 at o;split at o
 . obtain⟨t,rfl⟩:=rx;obtain⟨t',rfl⟩:=ry;exact rule _ _ _ _ _ _ _ (o.pure I ⟨_,rfl⟩)
 . exact o.elim
theorem oB{g:RZ->RZ->Sem RZ}{n:Int->Int->Bool}
  (rule: ∀(i j:Int)(t u:Tok)(s:R8)(Q:RZ->R8->Prop)(E:RZ->R8->Prop),Q (.bool (n i j)) s->SD (SN X.prog X.w) X.A (g (.int i t) (.int j u)) Q E s) :
  O2 X g (p2 λi j=>By (.bl (n i j))):=λI rx ry o=>by
 unfold p2 at o;split at o
 . obtain⟨t,rfl⟩:=rx;obtain⟨t',rfl⟩:=ry;exact rule _ _ _ _ _ _ _ (o.cg I rfl)
 . exact o.elim
theorem NQ:dz X pg k->O2 X (Xj .Sub) sP:=λ_=>oI λ_ _ _ _ _ _ _ q=>PyProof.Rows.sub_int q
theorem O9:dz X pg k->O2 X (Xj .Mod) oJ:=λ_=>Qn (C:=λ_ j=>0 < j) λi j _ _ _ _ _ h q=>mod_int' (by omega) (by rw[Int.fmod_eq_emod_of_nonneg i (by omega)];exact q)
theorem NS:dz X pg k->O2 X (Xj .Pow) F8:=λ_=>Qn (C:=λi j=>0<=j/\j<=1000000/\i.natAbs < 2 ^ 64) λ_ _ _ _ _ _ _ h q=>pow_int_small h.1 h.2.1 h.2.2 q
theorem Qi:dz X pg k->O2 X (UA .Lt) AQ:=λ_=>oB λ_ _ _ _ _ _ _ q=>lt_int q
theorem Qp:dz X pg k->O2 X (UA .LtE) NP:=λ_=>oB λ_ _ _ _ _ _ _ q=>le_int q
theorem QI:dz X pg k->O2 X (UA .Gt) NA:=λ_=>oB λ_ _ _ _ _ _ _ q=>gt_int q
theorem Ql:dz X pg k->O2 X (UA .GtE) Pb:=λ_=>oB λ_ _ _ _ _ _ _ q=>ge_int q
theorem aa7{i j:Int}(h:(-(2 ^ 64) < i/\i < 2 ^ 64)\/(-(2 ^ 64) < j/\j < 2 ^ 64)):IntMulOk i j:=h.elim (λh=> .of_left (XT h.1 h.2)) λh=> .of_right (XT h.1 h.2)
section
variable{pins:List (Sl × Obj)}{v:ay}{ρ :Ps}{p:PH}{s:R8}{n:Nat}{u w:RZ}{xs:List PV}{Q:RZ->R8->Prop}
theorem Inv.lst(I:Inv X pins v ρ p s)(e:p[n]?=fI (.lst xs))(r:rel ρ s.heap (.ref n) u): ∃ a us m,u= .ref a/\ ρ.l[n]?=fI (a,fI a)/\aB ρ s.heap xs us/\us.length<=sizeLine/\s.heap.get? a=fI { cls:= .type "list",data:= .seq us.toArray m}:=by
 obtain⟨⟨a,b⟩,e1,rfl⟩:=r;obtain⟨e2,us,r,z,m,t⟩:=I.sim.ob n _ _ e e1;cases(show b=fI a from e2);exact⟨a,us,m,rfl,e1,r,z,t⟩
theorem Inv.Ks(I:Inv X pins v ρ p s){a:Sl}{ys:List PV}{vs:List RZ}{h':SM}{m t':Nat}(e:p[n]?=fI (.lst xs))(e1: ρ.l[n]?=fI (a,fI a))(k: ∀ b u,b≠a->s.heap.get? b=fI u->h'.get? b=fI u)(g:Gr ρ s.heap ρ h')(r:aB ρ s.heap ys vs)(hl:vs.length<=sizeLine)
  (ho:h'.get? a=fI { cls:= .type "list",data:= .seq vs.toArray m}):Inv X pins v ρ (p.set n (.lst ys)) { s with heap:=h',toks:=t'} :=
 I.wr e rfl e1 rfl k rfl ⟨rfl,vs,r.up g,hl,m,ho⟩
theorem Gr.Ks{a:Sl}{us vs:List RZ}{m m':Nat}{h h':SM}{ρ :Ps}(e:h.get? a=fI { cls:= .type "list",data:= .seq us.toArray m})(k: ∀ b u,b≠a->h.get? b=fI u->h'.get? b=fI u):Gr ρ h ρ h':= .write k ⟨_,e,.inl (by simp)⟩
theorem rel.tup{xs:List PV}{h:SM}(r:rel ρ h (.tup xs) u\/rel ρ h (.ktup xs) u): ∃ a us,u= .ref a/\aB ρ h xs us/\us.length<=sizeLine/\Wl h a us.toArray:=r.elim (λ⟨a,us,e,r,z,t⟩=>⟨a,us,e,r,z.1,t.tup⟩) λ⟨a,us,e,r,z,t⟩=>⟨a,us,e,r,z.1,t⟩
end
theorem N6:dz X pg k->O2 X (Xj .Add) aV:=λ_ {_ _ ρ p s Q x y u w} I rx ry o=>by
 unfold aV at o;split at o
 . obtain⟨t,rfl⟩:=rx;obtain⟨t',rfl⟩:=ry;exact PyProof.Rows.add_int (o.pure I ⟨_,rfl⟩)
 . obtain⟨t,rfl⟩:=rx;obtain⟨t',rfl⟩:=ry;obtain⟨hl,o⟩:=Out.jD o;exact PyProof.Rows.add_str (λ_ _=>o.pure I ⟨_,rfl⟩) hl
 . rename_i xs ys;obtain⟨hl,o⟩:=Out.jD o;have ry':=ry;have rx':=rx;obtain⟨a,us,rfl,r1,z1,t1⟩:=rx;obtain⟨b,ws,rfl,r2,z2,t2⟩:=ry;obtain⟨⟨cls,dd,data,sl⟩,ho,hc,m,hd,_⟩:=id t1;obtain⟨⟨cls2,dd2,data2,sl2⟩,ho2,hc2,m2,hd2,_⟩:=id t2;simp only at hc hd hc2 hd2;subst hc hd hc2 hd2;cases us with
   | nil =>
    obtain rfl:xs=[]:=Ue r1.len
    exact wq ⟨_,ho,rfl⟩ ⟨_,ho2,rfl⟩ Yy ZV Ws Wc (VY _ _) (tuple_addW0 a b _ _ m m2 dd dd2 sl sl2 rfl) ⟨ho,ho2,o.cg I ry'⟩
   | cons x r =>
    refine _H.Hs t1.tup t2.tup (List.cons_ne_nil _ _) (λz=>?_) (λ_=>km I (r1.app r2) (by rw[Sj,<- r1.len,<- r2.len];exact hl) o) (by rw[<- r1.len,<- r2.len];exact hl)
    subst z
    obtain rfl:ys=[]:=Ue r2.len
    rw[SA] at o
    exact o.cg I rx'
 . split at o
   . rename_i h1 h2;obtain⟨hl,o⟩:=Out.jD o;obtain⟨a,us,m,rfl,_,r1,z1,t1⟩:=I.lst h1 rx;obtain⟨b,ws,m2,rfl,_,r2,z2,t2⟩:=I.lst h2 ry;have hl':us.length+ws.length<=sizeLine:=by rw[<- r1.len,<- r2.len,<- Sj];exact hl
     refine PySem.P.add_list t1 t2 ?_ (by rw[Ss,Ss];exact hl');have ea:us.toArray++ws.toArray=(us++ws).toArray:=by simp
     rw[ea];exact pJ I (r1.app r2) (by rw[Sj];exact hl') o
   . exact o.elim
 . exact o.elim
def IX(X:Cx)(f:PV->PV->PH->RV PV):Prop:= ∀{value slice:Tr}{pins v ρ p s Q x y u w},Inv X pins v ρ p s->rel ρ s.heap x u->rel ρ s.heap y w->WO slice false u w=Kb [u,w] (WI u w)->Out X (RE X pins v ρ s.heap Q) (f x y p)->SD (SN X.prog X.w) X.A (Yf value slice u w) Q X.xe s
section
variable{ρ :Ps}{h:SM}{P:SP}{w:Tp}
theorem iZ{x:PV}{k:Key}{u:RZ}(e:jT x=fI k)(r:rel ρ h x u):(bg P w).is k u=true:=by
 cases x with
 | int i=>cases e;obtain⟨t,rfl⟩:=r;exact Bg i t
 | str z=>cases e;obtain⟨t,rfl⟩:=r;exact nZ z t
 | _=>cases e
theorem RK.val{κ :Type}[DecidableEq κ]{kvs:List (κ × PV)}{kws:List (κ × RZ)}(k: κ)(r:RK ρ h kvs kws):EC ρ h (c9 kvs k) (valueAt kws k):=by
 induction r with
 | nil=>trivial
 | @cons p q _ _ r t ih =>
  unfold c9 valueAt at ih ⊢
  rw[Bw,Bw,<- r.1]
  by_cases e:p.1=k
  . simp only[e,decide_true,UC];exact r.2
  . simp only[e,decide_false];exact ih
theorem EC.some{v:PV}{o:Option RZ}(r:EC ρ h (fI v) o): ∃ u,o= .some u/\rel ρ h v u:=by
 cases o with
 | none=>exact r.elim
 | some u=>exact⟨u,rfl,r⟩
theorem EC.is{o:Option PV}{o':Option RZ}(r:EC ρ h o o'):o'.isSome=o.isSome:=by cases o<;>cases o'<;>first | rfl | exact r.elim
theorem RK.any{κ :Type}[DecidableEq κ]{kvs:List (κ × PV)}{kws:List (κ × RZ)}(k: κ)(r:RK ρ h kvs kws):(kws.any λkv=>decide (kv.1=k))=kvs.any λkv=>decide (kv.1=k):=by
 induction r with
 | nil=>rfl
 | cons r t ih=>rw[VT,VT,ih,r.1]
theorem RK.put{κ :Type}[DecidableEq κ]{kvs:List (κ × PV)}{kws:List (κ × RZ)}{k: κ}{x:PV}{v:RZ}(r:RK ρ h kvs kws)(e:rel ρ h x v):RK ρ h (jm kvs k x) (Z9 kws k v):=by
 unfold jm Z9;rw[RK.any k r];split
 . rename_i z
   clear z
   induction r with
   | nil=>exact .nil
   | @cons p q _ _ a t ih =>
    refine .cons ?_ ih
    show(if p.1=k then(p.1,x) else p).1=(if q.1=k then(q.1,v) else q).1/\rel ρ h (if p.1=k then(p.1,x) else p).2 (if q.1=k then(q.1,v) else q).2
    rw[<- a.1];split
    . exact⟨rfl,e⟩
    . exact a
 . exact Paired.snoc r ⟨rfl,e⟩
theorem qG{κ :Type}[DecidableEq κ](kws:List (κ × RZ))(k: κ)(v:RZ):(Z9 kws k v).length<=kws.length+1:=by
 unfold Z9;split
 . rw[xn];omega
 . rw[Sj];exact Si _
theorem aB.at{xs:List PV}{vs:List RZ}{i:Int}{x:PV}(r:aB ρ h xs vs)(e:fK xs i=fI x): ∃ u j,seqIndex? i vs.length=fI j/\vs[j]?=fI u/\j < vs.length/\ -(vs.length:Int)<=i/\i < vs.length/\rel ρ h x u:=by
 obtain⟨j,h1,h2,h3,h4,h5⟩:=Ax e;rw[r.len] at h1 h3 h4 h5;obtain⟨u,e1,e2⟩:=r.get h2;exact⟨u,j,h1,e1,h3,h4,h5,e2⟩
end
section
variable{pins:List (Sl × Obj)}{v:ay}{ρ :Ps}{p:PH}{s:R8}{n:Nat}{u w:RZ}{xs:List PV}{Q:RZ->R8->Prop}{value slice:Tr}{i:Int}{x:PV}
theorem Inv.bu{kvs:List (Key × PV)}(I:Inv X pins v ρ p s)(e:p[n]?=fI (.bu kvs))(r:rel ρ s.heap (.ref n) u): ∃ a kus,u= .ref a/\ ρ.l[n]?=fI (a,fI a)/\(a == U9)=false/\RK ρ s.heap kvs kus/\kus.length<=sizeLine/\s.heap.DictOf (bg X.prog X.w) a kus:=by
 obtain⟨⟨a,b⟩,e1,rfl⟩:=r;obtain⟨e2,z,kus,r,hl,d⟩:=I.sim.ob n _ _ e e1;cases(show b=fI a from e2);exact⟨a,kus,rfl,e1,z,r,hl,d⟩
theorem Ey{a:Sl}{us:List RZ}{t:Tok}(I:Inv X pins v ρ p s)(r:aB ρ s.heap xs us)(hl:us.length<=sizeLine)(pl:PlainL s.heap a us.toArray)(e:fK xs i=fI x)(hs:WO slice false (.ref a) (.int i t)=Kb [.ref a,.int i t] (WI (.ref a) (.int i t)))(o:Out X (RE X pins v ρ s.heap Q) (.ok x p)) :
  SD (SN X.prog X.w) X.A (Yf value slice (.ref a) (.int i t)) Q X.xe s:=by
 obtain⟨u,j,h1,e1,h3,h4,h5,e2⟩:=r.at e;have hn:=nR;have fin:Q u s:=o.cg I e2;by_cases h0:0<=i
 . have hj:i.toNat=j:=by
    rw[EO h0 h5] at h1;exact SY h1
   exact item_listR pl.isList h0 (by omega) (by rw[hj];simpa using e1) fin hs
 . have hj:(i+(us.toArray.size:Int)).toNat=j:=by
    rw[Cs (by omega) h4] at h1;rw[Ss];exact SY h1
   exact q9 pl.isList.typeIs slot_list_getitem.lookup (wpAny_getItem_list_neg pl.isList (by omega) (by rw[Ss];omega) (by omega) (by rw[hj];simpa using e1) fin) hs
theorem DB{a:Sl}{us:List RZ}{t:Tok}(I:Inv X pins v ρ p s)(r:aB ρ s.heap xs us)(hl:us.length<=sizeLine)(pl:Wl s.heap a us.toArray)(e:fK xs i=fI x)(hs:WO slice false (.ref a) (.int i t)=Kb [.ref a,.int i t] (WI (.ref a) (.int i t)))(o:Out X (RE X pins v ρ s.heap Q) (.ok x p)) :
  SD (SN X.prog X.w) X.A (Yf value slice (.ref a) (.int i t)) Q X.xe s:=by
 obtain⟨u,j,h1,e1,h3,h4,h5,e2⟩:=r.at e;have hn:=nR;exact q9 pl.typeIs TR.lookup (getItem_tuple (j:=j) pl (by omega) (by omega) (by rw[Ss];exact h1) (by simpa using e1) (o.cg I e2)) hs
end
theorem P8:dz X pg k->IX X aE:=λA {_ _ _ _ ρ p s Q x y u w} I rx ry hs o=>by
 cases x with
 | tup xs =>
  cases y with
  | int i =>
   simp only[aE] at o
   split at o
   . obtain⟨t,rfl⟩:=ry;obtain⟨a,us,rfl,r,z,d⟩:=rel.tup (.inl rx);exact DB I r z d (by assumption) hs o
   . exact o.elim
  | _=>exact o.elim
 | ktup xs =>
  cases y with
  | int i =>
   simp only[aE] at o
   split at o
   . obtain⟨t,rfl⟩:=ry;obtain⟨a,us,rfl,r,z,d⟩:=rel.tup (.inr rx);exact DB I r z d (by assumption) hs o
   . exact o.elim
  | _=>exact o.elim
 | str z =>
  cases y with
  | int i =>
   simp only[aE] at o
   obtain⟨hl,o⟩:=Out.jD o
   split at o
   . rename_i c e;obtain⟨t,rfl⟩:=rx;obtain⟨t',rfl⟩:=ry;obtain⟨j,h1,h2,h3,h4,h5⟩:=Ax e;have hz:z.cps.toList.length=z.length:=by simp[Str.length]
     rw[hz] at h1 h4 h5;have hn:=nR;exact q9 (typeIs_str s z t) slot_str_getitem.lookup (getItem_str (c:=c) (by
      rw[decide_eq_false (show ¬ i < -(2 ^ 63:Int) by omega),decide_eq_false (show ¬ i ≥ 2 ^ 63 by omega),Bool.or_false]) (by rw[h1];simpa using h2) (o.pure I ⟨_,rfl⟩)) hs
   . exact o.elim
  | _=>exact o.elim
 | ref n =>
  simp only[aE] at o
  split at o
  . rename_i kvs e;split at o
    . rename_i key ek;split at o
      . rename_i q ew;obtain⟨a,kus,rfl,_,hm,r,z,d⟩:=I.bu e rx;have rv:=r.val key;rw[ew] at rv;obtain⟨u',e1,e2⟩:=rv.some;exact q9 d.typeIs XD.lookup (wpAny_getItem_of (iZ ek ry) d.mapOf e1 (o.pure I e2)) hs
      . exact o.elim
    . exact o.elim
  . rename_i xs e;cases y with
    | int i =>
     simp only at o
     split at o
     . obtain⟨t,rfl⟩:=ry;obtain⟨a,_,us,_,rfl,r,z,d⟩:=I.sim.lst I.bk (by unfold br;rw[e]) rx;exact Ey I r z d (by assumption) hs o
     . exact o.elim
    | _=>exact o.elim
  . rename_i xs e;cases y with
    | int i =>
     simp only at o
     split at o
     . obtain⟨t,rfl⟩:=ry;obtain⟨a,_,us,_,rfl,r,z,d⟩:=I.sim.lst I.bk (by unfold br;rw[e]) rx;exact Ey I r z d (by assumption) hs o
     . exact o.elim
    | _=>exact o.elim
  . exact o.elim
 | _=>exact o.elim
theorem OG{f:PV->PV->PH->RV PV}{a b:Tr}{ma mb:ME}{pos:Pos}(hr:dz X pg k->IX X f)(ha:JE X pg k a ma)(hb:JE X pg k b mb)(hs:H9 b):JE X pg k (.Subscript a b pos) (ao f ma mb) :=
 ⟨λA I o=>Subscript_ (ha.h A I (o.go λ_ _ o _ _ _ g1 I1 r1=>hb.h A I1 (o.go λ_ _ o _ _ _ g2 I2 r2=>hr A I2 (r1.up g2) r2 (hs _ _) (o.up (g1.trans g2)))))⟩
theorem Jb:dz X pg k->O3 X fD:=λA {_ _ ρ p s Q x y z u w v} I rx ry rz o=>by
 cases x with
 | ref n =>
  simp only[fD] at o
  split at o
  . rename_i kvs e;split at o
    . rename_i key ek;obtain⟨hl,o⟩:=Out.ite o;obtain⟨a,kus,rfl,ea,hm,r,hz,d⟩:=I.bu e rx;refine wpAny_setItem_pairs (hsz:=hz) (iZ ek ry) d λh' d' hs=>?_;obtain⟨oa,_,_,e0,c0,dd0,_⟩:=id d;have g:Gr ρ s.heap ρ h':= .write (λb u n q=>(hs.2 b n).trans q) ⟨oa,e0,.inr ⟨_,_,dd0⟩⟩;exact o ρ _ g (I.wr e rfl ea rfl (λb u n q=>(hs.2 b n).trans q) rfl ⟨rfl,hm,_,(r.put rz).up g,Sx (qG _ _ _) (by rw[<- Vz r];exact hl),d'⟩)
    . exact o.elim
  . rename_i xs e;cases y with
    | int i =>
     simp only at o
     split at o
     . rename_i j ej;obtain⟨t,rfl⟩:=ry;obtain⟨a,us,m,rfl,ea,r,hz,ho⟩:=I.lst e rx;rw[r.len] at ej;obtain⟨h1,h2,h3,h4⟩:=AE ej;have hn:=nR;have eo:(s.heap.update a (Tu (·.setIfInBounds j v))).get? a=fI { cls:= .type "list",data:= .seq (us.set j v).toArray m}:=by
        rw[TH _ ho (by rw[pX];rfl),pX]
       have kp: ∀ b u,b≠a->s.heap.get? b=fI u->(s.heap.update a (Tu (·.setIfInBounds j v))).get? b=fI u:=λb u n q=>(S9 _ _ (VC n)).trans q
       have g:Gr ρ s.heap ρ (s.heap.update a (Tu (·.setIfInBounds j v))):= .Ks (vs:=us) (m':=m) ho kp
       have fin:=o ρ _ g (I.Ks (t':=s.toks) e ea kp g (aB.set rz r j) (by rw[Td];exact hz) eo);by_cases h0:0<=i
       . have hk:i.toNat=j:=by
          rw[EO h0 h4] at h1;exact SY h1
         exact PySem.W.ki_setAt ho h0 (by omega) (by rw[Ss];exact h4) (by rw[hk];exact fin)
       . have hk:(i+(us.toArray.size:Int)).toNat=j:=by
          rw[Cs (by omega) h3] at h1;rw[Ss];exact SY h1
         exact PySem.W.ki_setBack ho (by omega) (by rw[Ss];exact h3) (by omega) (by rw[hk];exact fin)
     . exact o.elim
    | _=>exact o.elim
  . exact o.elim
 | _=>exact o.elim
end
section
variable{ρ :Ps}{h:SM}
mutual
theorem ic.rd{sub:Nat->Option Vd}(hs: ∀ n d u,sub n=fI d->rel ρ h (.ref n) u-> ∃ as,Y8 h u d as): ∀(x:PV)(d:Vd)(u:RZ),ic sub x=fI d->rel ρ h x u-> ∃ as,Y8 h u d as
 | .non,_,_,e,r=>by cases e;cases r;exact⟨_,.none⟩
 | .bl b,_,_,e,r=>by cases e;cases r;exact⟨_,.bool b⟩
 | .int i,_,_,e,r=>by cases e;obtain⟨t,rfl⟩:=r;exact⟨_,.int i t⟩
 | .str x,_,_,e,r=>by cases e;obtain⟨t,rfl⟩:=r;exact⟨_,.str x t⟩
 | .ty _,_,_,e,_=>nomatch e
 | .ref n,d,u,e,r=>hs n d u e r
 | .tup xs,d,u,e,r=>by
  obtain⟨ds,q,rfl⟩:=Ta.mp e;obtain⟨a,us,rfl,rr,_,o,e1,c,n,dd,_⟩:=r;obtain⟨as,ra⟩:=bW.rd hs xs ds us q rr;exact⟨_,.tuple e1 c dd (by simpa using ra)⟩
 | .ktup xs,d,u,e,r=>by
  obtain⟨ds,q,rfl⟩:=Ta.mp e;obtain⟨a,us,rfl,rr,_,o,e1,c,n,dd⟩:=r;obtain⟨as,ra⟩:=bW.rd hs xs ds us q rr;exact⟨_,.tuple e1 c dd (by simpa using ra)⟩
theorem bW.rd{sub:Nat->Option Vd}(hs: ∀ n d u,sub n=fI d->rel ρ h (.ref n) u-> ∃ as,Y8 h u d as): ∀(xs:List PV)(ds:List Vd)(us:List RZ),bW sub xs=fI ds->aB ρ h xs us-> ∃ as,ReadsAll h us ds as
 | [],_,_,e,r=>by cases e;cases r;exact⟨_,.nil⟩
 | x::t,ds,us,e,r=>by
  rw[bW] at e;split at e
  . rename_i e1 e2;cases e;obtain⟨v,w,rfl,r1,r2⟩:=r;obtain⟨as,a⟩:=ic.rd hs x _ v e1 r1;obtain⟨bs,b⟩:=bW.rd hs t _ w e2 r2;exact⟨_,.cons a b⟩
  . cases e
end
end
section
variable{X:Cx}{pg:Tb}{k:Nat}{pins:List (Sl × Obj)}{v:ay}{ρ :Ps}{p:PH}{s:R8}{x y:PV}{u w:RZ}
theorem Inv.rd(I:Inv X pins v ρ p s): ∀(n:Nat)(x:PV)(d:Vd)(u:RZ),dat n p x=fI d->rel ρ s.heap x u-> ∃ as,Y8 s.heap u d as
 | 0,x,d,u,e,r=>ic.rd (λ_ _ _ z _=>by cases z) x d u e r
 | n+1,x,d,u,e,r=>by
  refine ic.rd (λm d' u' z rv=>?_) x d u e r;have go: ∀ xs,br p m=fI xs->(bW (λj=>dat n p (.ref j)) xs).map .list=fI d'-> ∃ as,Y8 s.heap u' d' as:=λxs em z=>by
   obtain⟨ds,q,rfl⟩:=Ta.mp z;obtain⟨a,_,us,_,rfl,rr,_,o,m',e1,c,_,dd⟩:=I.sim.lst I.bk em rv;obtain⟨as,ra⟩:=bW.rd (λj d v z rv=>Inv.rd I n (.ref j) d v z rv) xs ds us q rr;exact⟨_,.list e1 c dd (by simpa using ra)⟩
  split at z
  . exact go _ (by unfold br;rw[‹p[m]?=_›]) z
  . exact go _ (by unfold br;rw[‹p[m]?=_›]) z
  . cases z
section
variable{A:TP}{prog:SP}{wd:Tp}{E Q:RZ->R8->Prop}
theorem Gb(e:jR x y=true)(rx:rel ρ s.heap x u)(ry:rel ρ s.heap y w)(h:Q (.bool (decide (x=y))) s):SD (SN prog wd) A (UA .Eq u w) Q E s:=by
 have hb: ∀ c,decide (x=y)=c->Q (.bool c) s:=λ_ e=>e ▸ h;cases x with
 | non =>
  cases rx
  cases y with
  | non=>cases ry;exact PySem.EqNone.eq_none_none (hb _ (by simp))
  | bl j=>cases ry;exact PySem.EqNone.eq_none_bool (hb _ (by simp))
  | int j=>obtain⟨t',rfl⟩:=ry;exact PySem.EqNone.eq_none_int (hb _ (by simp))
  | str j=>obtain⟨t',rfl⟩:=ry;exact PySem.EqNone.eq_none_str (hb _ (by simp))
  | _=>cases e
 | bl i =>
  cases rx
  cases y with
  | non=>cases ry;exact PySem.EqNone.eq_bool_none (hb _ (by simp))
  | bl j=>cases ry;exact eq_bool (hb _ (by rw[Uj];simp))
  | str j=>obtain⟨t',rfl⟩:=ry;exact PySem.EqMixed.eq_bool_str (hb _ (by simp))
  | _=>cases e
 | int i =>
  obtain⟨t,rfl⟩:=rx
  cases y with
  | non=>cases ry;exact PySem.EqNone.eq_int_none (hb _ (by simp))
  | int j=>obtain⟨t',rfl⟩:=ry;exact eq_int (hb _ (by rw[Uj];simp))
  | str j=>obtain⟨t',rfl⟩:=ry;exact PySem.EqMixed.eq_int_str (hb _ (by simp))
  | _=>cases e
 | str i =>
  obtain⟨t,rfl⟩:=rx
  cases y with
  | non=>cases ry;exact PySem.EqNone.eq_str_none (hb _ (by simp))
  | bl j=>cases ry;exact PySem.EqMixed.eq_str_bool (hb _ (by simp))
  | int j=>obtain⟨t',rfl⟩:=ry;exact PySem.EqMixed.eq_str_int (hb _ (by simp))
  | str j=>obtain⟨t',rfl⟩:=ry;exact eq_str (hb _ (by rw[Uj];simp))
  | _=>cases e
 | _=>cases e
theorem abh(e:jR x y=true)(rx:rel ρ s.heap x u)(ry:rel ρ s.heap y w)(h:Q (.bool (!decide (x=y))) s):SD (SN prog wd) A (UA .NotEq u w) Q E s:=by
 have hb: ∀ c,decide (x=y)=c->Q (.bool (!c)) s:=λ_ e=>e ▸ h;cases x with
 | non =>
  cases rx
  cases y with
  | non=>cases ry;exact PySem.EqNone.ne_none_none (hb true (by simp))
  | bl j=>cases ry;exact PySem.EqNone.ne_none_bool (hb false (by simp))
  | int j=>obtain⟨t',rfl⟩:=ry;exact PySem.EqNone.ne_none_int (hb false (by simp))
  | str j=>obtain⟨t',rfl⟩:=ry;exact PySem.EqNone.ne_none_str (hb false (by simp))
  | _=>cases e
 | bl i =>
  cases rx
  cases y with
  | non=>cases ry;exact PySem.EqNone.ne_bool_none (hb false (by simp))
  | bl j=>cases ry;exact ne_bool (hb _ (by rw[Uj];simp))
  | str j=>obtain⟨t',rfl⟩:=ry;exact PySem.EqMixed.ne_bool_str (hb false (by simp))
  | _=>cases e
 | int i =>
  obtain⟨t,rfl⟩:=rx
  cases y with
  | non=>cases ry;exact PySem.EqNone.ne_int_none (hb false (by simp))
  | int j=>obtain⟨t',rfl⟩:=ry;exact ne_int (hb _ (by rw[Uj];simp))
  | str j=>obtain⟨t',rfl⟩:=ry;exact PySem.EqMixed.ne_int_str (hb false (by simp))
  | _=>cases e
 | str i =>
  obtain⟨t,rfl⟩:=rx
  cases y with
  | non=>cases ry;exact PySem.EqNone.ne_str_none (hb false (by simp))
  | bl j=>cases ry;exact PySem.EqMixed.ne_str_bool (hb false (by simp))
  | int j=>obtain⟨t',rfl⟩:=ry;exact PySem.EqMixed.ne_str_int (hb false (by simp))
  | str j=>obtain⟨t',rfl⟩:=ry;exact ne_str (hb _ (by rw[Uj];simp))
  | _=>cases e
 | _=>cases e
end
theorem Inv.alike{b:Bool}(I:Inv X pins v ρ p s)(rx:rel ρ s.heap x u)(ry:rel ρ s.heap y w)(e:alike x y p=fI b) :
  (jR x y=true/\b=decide (x=y))\/(∃ d d' as bs,Y8 s.heap u d as/\Y8 s.heap w d' bs/\d.canLay0=true/\d'.canLay0=true/\min d.depth d'.depth<=64/\b=U6 d d') \/
  (iL p x=true/\b=false/\ ∃ a z t kus,u= .ref a/\w= .str z t/\s.heap.DictOf (bg X.prog X.w) a kus):=by
 unfold _P.alike at e;split at e
 . cases e;exact .inl ⟨by assumption,rfl⟩
 . split at e
   . rename_i d d' e1 e2;split at e
     . rename_i hc;cases e;obtain⟨as,ra⟩:=I.rd 6 x d u e1 rx;obtain⟨bs,rb⟩:=I.rd 6 y d' w e2 ry;exact .inr (.inl ⟨d,d',as,bs,ra,rb,hc.1,hc.2.1,hc.2.2,rfl⟩)
     . cases e
   . split at e
     . rename_i hc;cases e;refine .inr (.inr ⟨hc.1,rfl,?_⟩);obtain⟨c1,c2⟩:=hc;cases x with
       | ref n =>
        cases y with
        | str z =>
         obtain⟨t,rfl⟩:=ry
         simp only[iL] at c1
         split at c1
         . obtain⟨a,kus,rfl,_,_,_,_,d⟩:=I.bu ‹_› rx;exact⟨a,z,t,kus,rfl,rfl,d⟩
         . cases c1
        | _=>cases c2
       | _=>cases c1
     . cases e
theorem Qe:dz X pg k->O2 X (UA .Eq) eE:=λA {_ _ _ _ s Q _ _ _ _} I rx ry o=>by
 unfold eE at o;split at o
 . have fin:=o.cg I rfl;rcases I.alike rx ry ‹_› with⟨z,rfl⟩ | ⟨d,d',as,bs,ra,rb,c1,c2,hd,rfl⟩ | ⟨_,rfl,a,z,t,kus,rfl,rfl,ob,es,ep,e,hx,hdd,_⟩
   . exact Gb z rx ry fin
   . exact SeqAt.compareEq_reads ra rb c1 c2 (Vq (W8 hd _) A.room.units) fin
   . exact vR z t e hx hdd A.room.L5 _ _ _ _ fin
 . exact o.elim
theorem aaW:dz X pg k->O2 X (UA .NotEq) kR:=λA {_ _ _ _ s Q _ _ _ _} I rx ry o=>by
 unfold kR at o;split at o
 . split at o
   . exact o.elim
   . have fin:=o.cg I rfl;rcases I.alike rx ry ‹_› with⟨z,rfl⟩ | ⟨d,d',as,bs,ra,rb,c1,c2,hd,rfl⟩ | ⟨z,_⟩
     . exact abh z rx ry fin
     . exact SeqAt.compareNe_reads ra rb c1 c2 (Vq (W8 hd _) A.room.units) fin
     . exact absurd z ‹_›
 . exact o.elim
theorem Inv.items{xs:List PV}(I:Inv X pins v ρ p s)(e:itemsOf p x=fI xs)(r:rel ρ s.heap x u): ∃ a us,u= .ref a/\aB ρ s.heap xs us/\us.length<=sizeLine/\(PlainL s.heap a us.toArray\/Wl s.heap a us.toArray):=by
 cases x with
 | tup ys=>cases e;obtain⟨a,us,e,r,z,t⟩:=rel.tup (.inl r);exact⟨a,us,e,r,z,.inr t⟩
 | ktup ys=>cases e;obtain⟨a,us,e,r,z,t⟩:=rel.tup (.inr r);exact⟨a,us,e,r,z,.inr t⟩
 | ref n=>obtain⟨a,_,us,_,e,r,z,t⟩:=I.sim.lst I.bk e r;exact⟨a,us,e,r,z,.inl t⟩
 | _=>cases e
section
variable{A:TP}{h:SM}
noncomputable def Im(x:PV)(u:RZ):Bool:=match u with
 | .none=>EA .non x
 | .bool b=>EA (.bl b) x
 | .int i _=>EA (.int i) x
 | .str z _=>EA (.str z) x
 | _=>false
theorem Dq(r:rel ρ h y u)(f:iN y=true):Im x u=EA y x:=by
 cases y with
 | non=>cases r;rfl
 | bl b=>cases r;rfl
 | int i=>obtain⟨t,rfl⟩:=r;rfl
 | str z=>obtain⟨t,rfl⟩:=r;rfl
 | _=>cases f
theorem Gp: ∀{xs:List PV}{us:List RZ},aB ρ h xs us->xs.all iN=true->us.any (Im x)=xs.any λy=>EA y x:=λ{xs}=>by
 induction xs with
 | nil=>intro us r _;cases(show us=[] from r);rfl
 | cons y t ih =>
  intro us r f
  obtain⟨u,w,rfl,r1,r2⟩:=r
  rw[XW,Sr] at f
  rw[VT,VT,Dq r1 f.1,ih r2 f.2]
theorem aaY(ry:rel ρ h y u)(rx:rel ρ h x w)(fy:iN y=true)(fx:iN x=true):Pt A s u w (EA y x):=by
 cases y with
 | non =>
  cases ry
  cases x with
  | non=>cases rx;exact SeqAt.EqAt.same _
  | bl b=>cases rx;exact SeqAt.EqAt.none_bool b
  | int b=>obtain⟨t,rfl⟩:=rx;exact SeqAt.EqAt.none_int b t
  | str b=>obtain⟨t,rfl⟩:=rx;exact SeqAt.EqAt.none_str b t
  | _=>cases fx
 | bl a =>
  cases ry
  cases x with
  | non=>cases rx;exact SeqAt.EqAt.bool_none a
  | bl b=>cases rx;exact SeqAt.EqAt.bool_bool a b
  | int b=>obtain⟨t,rfl⟩:=rx;exact SeqAt.EqAt.bool_int a b t
  | str b=>obtain⟨t,rfl⟩:=rx;exact SeqAt.EqAt.bool_str a b t
  | _=>cases fx
 | int a =>
  obtain⟨t',rfl⟩:=ry
  cases x with
  | non=>cases rx;exact SeqAt.EqAt.int_none a t'
  | bl b=>cases rx;exact SeqAt.EqAt.int_bool a t' b
  | int b=>obtain⟨t,rfl⟩:=rx;exact SeqAt.EqAt.int_int a t' b t
  | str b=>obtain⟨t,rfl⟩:=rx;exact ZY a t' b t
  | _=>cases fx
 | str a =>
  obtain⟨t',rfl⟩:=ry
  cases x with
  | non=>cases rx;exact SeqAt.EqAt.str_none a t'
  | bl b=>cases rx;exact SeqAt.EqAt.str_bool a t' b
  | int b=>obtain⟨t,rfl⟩:=rx;exact ZZ a t' b t
  | str b=>obtain⟨t,rfl⟩:=rx;exact Xp a t' b t
  | _=>cases fx
 | _=>cases fy
theorem Fu(rx:rel ρ h x w)(fx:iN x=true): ∀{xs:List PV}{us:List RZ},aB ρ h xs us->xs.all iN=true-> ∀ u∈us,Pt A s u w (Im x u):=λ{xs}=>by
 induction xs with
 | nil=>intro us r _ u hu;cases(show us=[] from r);cases hu
 | cons y t ih =>
  intro us r f u' hu
  obtain⟨u,w,rfl,r1,r2⟩:=r
  rw[XW,Sr] at f
  rcases Sd.mp hu with rfl | hu
  . rw[Dq r1 f.1];exact aaY r1 rx f.1 fx
  . exact ih r2 f.2 u' hu
end
theorem Inv.isIn{b:Bool}(I:Inv X pins v ρ p s)(rx:rel ρ s.heap x u)(ry:rel ρ s.heap y w)(e:isIn x y p=fI b) :
  (∃(a:Sl)(us:List RZ),w= .ref a/\(s.heap.IsList a us.toArray\/Wl s.heap a us.toArray)/\(∀ A,∀ z∈us.toArray,Pt A s z u (Im x z))/\b=us.toArray.any (Im x)) \/
  (∃ xs d as bs,(Y8 s.heap w (.list xs) as\/Y8 s.heap w (.tuple xs) as)/\Y8 s.heap u d bs/\Tg xs=true/\d.canLay0=true/\min (T9 xs) d.depth<=60/\b=xs.any λz=>U6 z d) \/
  (∃ a q kus,w= .ref a/\(bg X.prog X.w).is q u=true/\(a == U9)=false/\s.heap.DictOf (bg X.prog X.w) a kus/\b=(valueAt kus q).isSome) \/
  (∃ i j t t',u= .str i t/\w= .str j t'/\b= !(Yo j i 0 j.length 1).isEmpty):=by
 unfold _P.isIn at e;split at e
 . rename_i xs ei;obtain⟨a,us,rfl,r,z,hq⟩:=I.items ei ry;have fin: ∀ ds d,bW (λj=>dat 6 p (.ref j)) xs=fI ds->dat 6 p x=fI d->Tg ds=true->d.canLay0=true->min (T9 ds) d.depth<=60->(b=ds.any λz=>U6 z d) ->
     ∃ xs d as bs,(Y8 s.heap (.ref a) (.list xs) as\/Y8 s.heap (.ref a) (.tuple xs) as)/\Y8 s.heap u d bs/\Tg xs=true/\d.canLay0=true/\min (T9 xs) d.depth<=60/\b=xs.any λz=>U6 z d:=λds d e1 e2 c1 c2 c3 c4=>by
    obtain⟨as,ra⟩:=bW.rd (λj d v z rv=>I.rd 6 (.ref j) d v z rv) xs ds us e1 r;obtain⟨bs,rb⟩:=I.rd 6 x d u e2 rx;rcases hq with⟨o,n,f1,f2,_,f3⟩ | ⟨o,f1,f2,n,f3⟩
    . exact⟨ds,d,_,bs,.inl (.list f1 f2 f3 (by simpa using ra)),rb,c1,c2,c3,c4⟩
    . exact⟨ds,d,_,bs,.inr (.tuple f1 f2 f3 (by simpa using ra)),rb,c1,c2,c3,c4⟩
   split at e
   . rename_i hf;cases e;rw[Sr] at hf;exact .inl ⟨a,us,rfl,hq.imp PlainL.isList id,λA z hz=>Fu rx hf.1 r hf.2 z (by simpa using hz),by rw[<- Gp r hf.2];simp⟩
   . split at e
     . rename_i d ds e1 e2;split at e
       . rename_i hc;cases e;exact .inr (.inl (fin ds d e2 e1 hc.1 hc.2.1 hc.2.2 rfl))
       . cases e
     . cases e
 . split at e
   . split at e
     . obtain⟨q,hq,e⟩:=Ta.mp e;cases e;obtain⟨a,kus,rfl,_,hm,r,_,d⟩:=I.bu ‹_› ry;exact .inr (.inr (.inl ⟨a,q,kus,rfl,iZ hq rx,hm,d,(r.val q).is.symm⟩))
     . cases e
   . split at e
     . cases e;obtain⟨t,rfl⟩:=rx;obtain⟨t',rfl⟩:=ry;exact .inr (.inr (.inr ⟨_,_,t,t',rfl,rfl,rfl⟩))
     . cases e
   . cases e
theorem pT{A:TP}{n:Nat}(h:A.units+64 < Zn)(e:n<=60):A.units+1+n < Zn:=by omega
theorem Qg:dz X pg k->O2 X (UA .In) jE:=λA {_ _ _ _ s Q _ _ _ _} I rx ry o=>by
 unfold jE at o;split at o
 . rcases I.isIn rx ry ‹_› with⟨a,us,rfl,hq | hq,hz,rfl⟩ | ⟨xs,d,as,bs,ra | ra,rb,c1,c2,hd,rfl⟩ | ⟨a,q,kus,rfl,hq,hm,d,rfl⟩ | ⟨i,j,t,t',rfl,rfl,rfl⟩
   . exact SeqAt.in_listAt (Im _) hq (hz _) (o.cg I rfl)
   . exact SeqAt.in_tupleAt (Im _) hq (hz _) (o.cg I rfl)
   . exact SeqAt.in_list_reads ra rb c1 c2 (pT A.room.units hd) (o.cg I rfl)
   . exact SeqAt.in_tuple_reads ra rb c1 c2 (pT A.room.units hd) (o.cg I rfl)
   . exact wpAny_in_of hq hm d.mapOf (o.pure I rfl)
   . exact in_str (o.cg I rfl)
 . exact o.elim
theorem aaP:dz X pg k->O2 X (UA .NotIn) lu:=λA {_ _ _ _ s Q _ _ _ _} I rx ry o=>by
 unfold lu at o;split at o
 . rcases I.isIn rx ry ‹_› with⟨a,us,rfl,hq | hq,hz,rfl⟩ | ⟨xs,d,as,bs,ra | ra,rb,c1,c2,hd,rfl⟩ | ⟨a,q,kus,rfl,hq,hm,d,rfl⟩ | ⟨i,j,t,t',rfl,rfl,rfl⟩
   . exact SeqAt.notIn_listAt (Im _) hq (hz _) (o.cg I rfl)
   . exact SeqAt.notIn_tupleAt (Im _) hq (hz _) (o.cg I rfl)
   . exact SeqAt.notIn_list_reads ra rb c1 c2 (pT A.room.units hd) (o.cg I rfl)
   . exact SeqAt.notIn_tuple_reads ra rb c1 c2 (pT A.room.units hd) (o.cg I rfl)
   . exact wpAny_notIn_of hq hm d.mapOf (o.pure I rfl)
   . exact notIn_str (o.cg I rfl)
 . exact o.elim
variable{a:Tr}{ma:ME}{pos pos':Pos}
theorem uB(r:rel ρ s.heap x u):(u == Tx)=decide (x= .non):=by
 cases x with
 | non=>cases r;rfl
 | bl=>cases r;rfl
 | int=>obtain⟨_,rfl⟩:=r;rfl
 | str=>obtain⟨_,rfl⟩:=r;rfl
 | ty=>cases r;rfl
 | tup=>obtain⟨a,_,rfl,_⟩:=r;rfl
 | ktup=>obtain⟨a,_,rfl,_⟩:=r;rfl
 | ref=>obtain⟨a,_,rfl⟩:=r;rfl
theorem J3{j:Nat}(ha:JE X pg k a ma):JE X pg k (.Compare a [.Is] [.Constant .none j pos'] pos) (Az (gX false) ma) :=
 ⟨λA I o=>wpAny_Compare1 (ha.h A I (o.go λ_ _ o _ _ _ g1 I1 r1=>X0 (is_none_gen (by rw[uB r1];exact Out.cg (Out.up (r:= .ok _ _) o g1) I1 rfl)))) rfl⟩
theorem Lr{j:Nat}(ha:JE X pg k a ma):JT X pg k (.Compare a [.Is] [.Constant .none j pos'] pos) (aF (Az (gX false) ma)) :=
 ⟨λA I o=>WA (ha.h A I ((AB o).go λ_ _ o _ _ _ g1 I1 r1=>X0 (is_none_gen (by rw[uB r1];obtain⟨_,e,q⟩:=Out.cg (Out.up (r:= .ok _ _) o g1) I1 rfl;cases e;exact Ud q)))) rfl⟩
theorem Iz{j:Nat}(ha:JE X pg k a ma):JT X pg k (.Compare a [.IsNot] [.Constant .none j pos'] pos) (aF (Az (gX true) ma)) :=
 ⟨λA I o=>WA (ha.h A I ((AB o).go λ_ _ o _ _ _ g1 I1 r1=>X0 (isnot_none_gen (by rw[uB r1];obtain⟨_,e,q⟩:=Out.cg (Out.up (r:= .ok _ _) o g1) I1 rfl;cases e;exact Ud q)))) rfl⟩
end
section
variable{X:Cx}{pg:Tb}{k:Nat}
def Rz(X:Cx)(pins:List (Sl × Obj))(e:ay)(ρ :Ps)(h:SM)(Q:RZ->R8->Prop):Option Int->PH->Prop:=λo p=> ∀ ρ' s' u,Gr ρ h ρ' s'.heap->Inv X pins e ρ' p s'->YM u o->Q u s'
structure JO(X:Cx)(pg:Tb)(k:Nat)(e:Option Tr)(m:MO):Prop where
 h: ∀{pins v ρ p s Q},dz X pg k->Inv X pins v ρ p s->Out X (Rz X pins v ρ s.heap Q) (m (run pg k) v p)->SD (SN X.prog X.w) X.A (evalPart e X.env) Q X.xe s
theorem HD:JO X pg k ox fR:=⟨λ{_ _ ρ _ s _} _ I o=>by rw[evalPart_none];exact Sg (o ρ s .none .refl I .none)⟩
theorem Ht{e:Tr}{ma:ME}(ha:JE X pg k e ma):JO X pg k (fI e) (cL ma):=⟨λA I o=>by
 rw[evalPart_some];refine ha.h A I (o.go λx _ o ρ1 s1 u g1 I1 r1=>?_);cases x with
 | int i=>obtain⟨t,rfl⟩:=r1;exact o ρ1 s1 _ g1 I1 (.int i t)
 | _=>exact o.elim⟩
section
variable{pins:List (Sl × Obj)}{v:ay}{ρ :Ps}{p:PH}{s:R8}{u vl vu:RZ}{x:PV}{lo hi:Option Int}{sl:Sl}{Q:RZ->R8->Prop}
theorem LH(I:Inv X pins v ρ p s)(rx:rel ρ s.heap x u)(hs:s.heap.IsSliceOf sl vl vu .none)(pl:YM vl lo)(pu:YM vu hi)(o:Out X (RE X pins v ρ s.heap Q) (yf x lo hi p)) :
  ∃ T id,YN (.type T) "__getitem__" =pure (fI (.builtin id))/\s.TypeIs u T/\SD (SN X.prog X.w) X.A (WI u (.ref sl)) Q X.xe s:=by
 cases x with
 | tup xs =>
  have rx':=rx
  obtain⟨a,us,rfl,r,z,t⟩:=rx
  refine⟨"tuple",_,TR.lookup,t.tup.typeIs,?_⟩
  by_cases hw:_H.jl us.toArray.size 0 lo=0/\_H.jl us.toArray.size us.toArray.size hi=us.toArray.size
  . refine sF t.tup hs pl pu hw (o.cg I ?_);have:fQ xs lo hi=xs:=by
     unfold fQ;rw[r.len,<- Ss,hw.1,hw.2,qx,Nat.sub_zero,Ss,<- r.len,Yt]
    rw[this];exact rx'
  . refine _H.mF t.tup hs pl pu hw ?_ (by rw[Ss];exact z.1);unfold yf fQ at o;dsimp only at o;rw[r.len,<- Ss] at o;exact km I ((r.drop _).take _) (Sx (by rw[TM,Vg];omega) z.1) o
 | ref n =>
  simp only[yf] at o
  split at o
  . obtain⟨a,_,us,_,rfl,r,z,t⟩:=I.sim.lst I.bk ‹_› rx;refine⟨"list",_,slot_list_getitem.lookup,t.isList.typeIs,?_⟩;refine wpAny_getItem_list_slice t.isList hs pl pu .none (by simp) ?_ (by rw[Ss];omega);rw[sX];unfold fQ at o;rw[r.len] at o;exact pJ I ((r.drop _).take _) (Sx (by rw[TM,Vg];omega) z) o
  . exact o.elim
 | _=>exact o.elim
end
theorem Ej{e:Tr}{lo hi:Option Tr}{ma:ME}{ml mu:MO}{p2 pos:Pos}(ha:JE X pg k e ma)(hl:JO X pg k lo ml)(hh:JO X pg k hi mu):JE X pg k (.Subscript e (.Slice lo hi ox p2) pos) (t9 ma ml mu):=⟨λ{pins v ρ p s Q} A I o=>by
 refine Subscript_ (ha.h A I (o.go λx _ o _ _ u g1 I1 r1=>wpAny_Slice (hl.h A I1 (o.go λl _ o _ s2 vl g2 I2 p1=>hh.h A I2 (o.go λl' _ o ρ3 s3 vu g3 I3 p2'=>?_)))));rw[evalPart_none];refine Sg ?_;have kp: ∀ b u,s3.heap.get? b=fI u->(s3.heap.push { cls:= .type "slice",data:= .fields #[vl,vu,.none]}).get? b=fI u:=λ_ _ e=>Sa _ e;have I4:=I3.kept (t':=s3.toks) kp;obtain⟨T,id,hT,ht,hg⟩:=LH I4 (r1.up ((g2.trans g3).trans (.kept kp))) (abj ..) p1 p2' (o.up (((g1.trans g2).trans g3).trans (.kept kp)));show SD (SN X.prog X.w) X.A (Yf e (.Slice lo hi ox p2) u (.ref s3.heap.objs.size)) Q X.xe { s3 with heap:=s3.heap.push { cls:= .type "slice",data:= .fields #[vl,vu,.none]}};exact q9 (ops:=[.ref s3.heap.objs.size,u]) ht hT hg (by with_unfolding_all rfl)⟩
theorem Pc:dz X pg k->OL X (λus=>call (.builtin "len") us) bG:=λ_ {_ _ _ _ _ _ _ _} I r o=>by
 have hn:=nR;unfold bG at o;split at o
 . obtain⟨u,_,rfl,r,rfl⟩:=r;split at o
   . obtain⟨a,us,rfl,r2,z,hq⟩:=I.items ‹_› r;rw[r2.len] at o;rcases hq with hq | hq
     . exact Calls.call_len_list hq.isList (by rw[Ss];omega) (by rw[Ss];exact o.pure I ⟨_,rfl⟩)
     . exact len_tuple hq (by rw[Ss];omega) (by rw[Ss];exact o.pure I ⟨_,rfl⟩)
   . split at o
     . obtain⟨t,rfl⟩:=r;obtain⟨hl,o⟩:=Out.jD o;exact len_str (by omega) (o.pure I ⟨_,rfl⟩)
     . split at o
       . obtain⟨a,kus,rfl,_,hm,rk,z,d⟩:=I.bu ‹_› r;rw[show _=kus.length from Vz rk] at o;exact call_len_dict hm d (by rw[sizeLine_eq] at z;omega) (o.pure I ⟨_,rfl⟩)
       . exact o.elim
     . exact o.elim
 . exact o.elim
section
variable{K:Sy}{pins:List (Sl × Obj)}{v:ay}{ρ :Ps}{p:PH}{s:R8}{u:RZ}{x:PV}
theorem Dd(a b:Ty)(hb:b≠ .non):PySem.W.kitOne K (.type a.n) (.type b.n)=fI (a.OH b):=by
 cases b<;>first | (exact absurd rfl hb) | (cases a<;>rfl)
theorem AU(a:Ty): ∀(bs:List Ty),(∀ b∈bs,b≠ .non)->Ha K (.type a.n) ((bs.map Ty.n).map VH)=fI (bs.any a.OH)
 | [],_=>rfl
 | b::r,h=>by
  have h1:=Dd (K:=K) a b (h b So);have h2:=AU a r λc m=>h c (Sk _ m);simp only[R9,VT,Ha,h1,h2];cases a.OH b<;>rfl
theorem Inv.Rd{t:Ty}(I:Inv X pins v ρ p s)(e:tyP p x=fI t)(r:rel ρ s.heap x u): ∃ H,KitX X.K u (.type t.n) H/\H s.heap/\u≠ .builtin "__main__.__loader__#opaque" :=by
 cases x with
 | non=>cases e;cases r;exact⟨_,kitx_none,trivial,nofun⟩
 | bl b=>cases e;cases r;exact⟨_,kitx_bool,trivial,nofun⟩
 | int i=>cases e;obtain⟨_,rfl⟩:=r;exact⟨_,kitx_int,trivial,nofun⟩
 | str z=>cases e;obtain⟨_,rfl⟩:=r;exact⟨_,kitx_str,trivial,nofun⟩
 | tup xs=>cases e;obtain⟨a,us,rfl,_,_,o,g1,g2,_⟩:=r;exact⟨_,kitx_tuple,⟨o,g1,g2⟩,nofun⟩
 | ref n =>
  simp only[tyP] at e
  split at e
  . cases e;obtain⟨a,us,m,rfl,_,_,_,g⟩:=I.lst ‹_› r;exact⟨_,kitx_list,⟨_,g,rfl⟩,nofun⟩
  . cases e;obtain⟨a,us,rfl,_,_,_,_,o,_,_,g1,g2,_⟩:=I.bu ‹_› r;exact⟨_,kitx_dict,⟨o,g1,g2.1⟩,nofun⟩
  . cases e
 | _=>cases e
theorem GV{h:SM}: ∀{ts:List PV}{bs:List Ty}{us:List RZ},Ak ts=fI bs->aB ρ h ts us->us=(bs.map Ty.n).map VH/\ ∀ b∈bs,b≠ .non:=λ{ts}=>by
 induction ts with
 | nil=>intro bs us e r;cases e;cases(show us=[] from r);exact⟨rfl,λ_ m=>by cases m⟩
 | cons x t ih =>
  intro bs us e r
  cases x with
  | ty T =>
   simp only[Ak] at e
   split at e
   . cases e;obtain⟨v,w,rfl,r1,r2⟩:=r;obtain⟨h1,h2⟩:=ih ‹_› r2;obtain⟨n1,n2⟩:=Ty.Pu ‹_›;refine⟨by rw[show v= .type T from r1,h1,n1];rfl,λc m=>?_⟩;rcases Sd.mp m with rfl | m
     . exact n2
     . exact h2 c m
   . cases e
  | _=>cases e
end
theorem OV:dz X pg k->OL X (λus=>call (.builtin "isinstance") us) sC:=λ_ {_ _ _ _ _ _ _ _} I r o=>by
 unfold sC at o;split at o
 . split at o
   . obtain⟨u,_,rfl,r1,w,_,rfl,r2,rfl⟩:=r;obtain⟨n1,n2⟩:=Ty.Pu ‹_›;obtain⟨H,z,hz,hx⟩:=I.Rd ‹_› r1;rw[show w= .type _ from r2,n1];exact kia_one z I.B3 hz (Dd _ _ n2) hx λ_=>o.pure I rfl
   . exact o.elim
 . split at o
   . obtain⟨u,_,rfl,r1,w,_,rfl,⟨a,us,rfl,r2,_,⟨cls,dd,dat,sl⟩,e1,e2,n,e3,_⟩,rfl⟩:=r;obtain⟨h1,h2⟩:=GV ‹_› r2;subst h1;simp only at e2 e3;subst e2 e3;obtain⟨H,z,hz,hx⟩:=I.Rd ‹_› r1;exact kia_tup z I.B3 hz e1 (AU _ _ h2) hx λ_=>o.pure I rfl
   . exact o.elim
 . exact o.elim
theorem Pa:dz X pg k->OL X (λus=>call (.type "int") us) vW:=λ_ {_ _ _ _ _ _ _ _} I r o=>by
 unfold vW at o;split at o
 . obtain⟨u,_,rfl,⟨t,rfl⟩,rfl⟩:=r;exact call_int_int (o.cg I ⟨_,rfl⟩)
 . obtain⟨u,_,rfl,r,rfl⟩:=r;cases r;exact call_int_bool (o.pure I ⟨_,rfl⟩)
 . exact o.elim
theorem GC:dz X pg k->OL X (λus=>call (.type "tuple") us) aQ:=λ_ {_ _ ρ _ s _ _ _} I r o=>by
 unfold aQ at o;split at o
 . obtain⟨u,_,rfl,r,rfl⟩:=r;have r':=r;obtain⟨a,us,rfl,_,_,t⟩:=r;exact call_tuple_same t.tup (o.cg I r')
 . split at o
   . obtain⟨u,_,rfl,r,rfl⟩:=r;obtain⟨a,_,us,_,rfl,rr,z,t⟩:=I.sim.lst I.bk ‹_› r;refine call_tuple_list t.isList (λh' kp=>?_) (by rw[Ss];exact z);exact km (I.kept (t':=s.toks) kp) (rr.up (.kept kp)) z (Out.up (r:= .ok _ _) o (.kept kp))
   . exact o.elim
 . exact o.elim
theorem JJ:dz X pg k->OL X (λus=>call (.type "list") us) kS:=λ_ {_ _ ρ p s Q _ _} I r o=>by
 unfold kS at o;split at o
 . split at o
   . obtain⟨u,_,rfl,r,rfl⟩:=r;obtain⟨a,us,rfl,rr,z,hq⟩:=I.items ‹_› r;have fin: ∀(h':SM)(c':Nat),(∀ b o',s.heap.get? b=fI o'->h'.get? b=fI o')->h'.get? s.heap.objs.size=fI { cls:= .type "list",dict:=ox,data:= .seq us.toArray c',slots:= #[]}->Q (.ref s.heap.objs.size) { s with heap:=h'}:=λh' c' kp e =>
      o _ _ _ ((Gr.kept kp).more _) (I.new (t':=s.toks) (q:=(s.heap.objs.size,fI s.heap.objs.size)) rfl kp (Si _) (Si _) ⟨rfl,us,rr.up ((Gr.kept kp).more _),z,c',e⟩) ⟨(s.heap.objs.size,fI s.heap.objs.size),I.sim.end,rfl⟩
     rcases hq with hq | hq
     . obtain⟨o,ho,hc,n,hd⟩:=hq.isList;exact call_list_seq a (.inl rfl) ho hc hd fin (by rw[Ss];exact z)
     . obtain⟨o,ho,hc,n,hd⟩:=hq;exact call_list_seq a (.inr rfl) ho hc hd fin (by rw[Ss];exact z)
   . exact o.elim
 . exact o.elim
section
variable{ρ :Ps}{h:SM}
theorem GN: ∀{bs:List Bool}{us:List RZ},aB ρ h (bs.map PV.bl) us->us=bs.map Xq:=λ{bs}=>by
 induction bs with
 | nil=>exact λr=>r
 | cons b t ih=>intro us r;obtain⟨v,w,rfl,r1,r2⟩:=r;rw[show v= .bool b from r1,ih r2];rfl
theorem Fw: ∀{ns:List Int}{us:List RZ},aB ρ h (ns.map PV.int) us->ZG us ns:=λ{bs}=>by
 induction bs with
 | nil=>intro us r;cases(show us=[] from r);exact .nil
 | cons b t ih=>intro us r;obtain⟨v,w,rfl,⟨t,rfl⟩,r2⟩:=r;exact .cons b t (ih r2)
end
theorem Pl:dz X pg k->OL X (λus=>call (.builtin "all") us) Ff:=λA {_ _ ρ p s Q _ _} I r o=>by
 unfold Ff Ew at o;split at o
 . split at o
   . split at o
     . rename_i bs eb;obtain⟨u,_,rfl,r,rfl⟩:=r;obtain⟨a,_,us,_,rfl,rr,z,t⟩:=I.sim.lst I.bk ‹_› r;rw[AO eb] at rr;obtain rfl:=GN rr;have hl:=t.isList;have hlt:a < s.heap.objs.size:=by obtain⟨_,e,_⟩:=hl;exact Su e
       have hg: ∀ i v,((bs.map Xq).toArray[i]?=fI v)-> ∃ b,bs[i]?=fI b/\v=Xq b:=λi v e=>by
        rw[Ug,Sq,Ta] at e;obtain⟨b,e1,e2⟩:=e;exact⟨b,e1,e2.symm⟩
       refine call_all_walk (wpAny_pyIter_list (items:=(bs.map Xq).toArray) hl ?_);refine⟨s.heap.objs.size,[s.heap.objs.size,a],[s.heap.objs.size],(bs.map Xq).toArray.size,_,_,λi=>(bs[i]?).getD true,rfl,Walks.list (A:=X.A.in1) (I.ok.hd A.calm) _ a (SW hlt) _,⟨⟨_,Sv _ rfl,rfl,rfl⟩,hl.push _⟩,?_,?_⟩
       . intro i v s' Q' E' hP hQ;obtain⟨b,e,rfl⟩:=hg i v hP;simp only[SE,e] at hQ;exact Ud hQ
       . intro h' tk hk;rw[show((S6 (bs.map Xq).toArray.size).all λi=>(bs[i]?).getD true)=bs.all id by rw[Ss,xn];exact LSm.range_all bs];exact o ρ _ _ (.kept (ud hk)) (I.kept (ud hk)) rfl
     . exact o.elim
   . exact o.elim
 . exact o.elim
theorem qq{pins:List (Sl × Obj)}{v:ay}{ρ :Ps}{p:PH}{s:R8}{u:RZ}{x:PV}(I:Inv X pins v ρ p s)(r:rel ρ s.heap x u)(e:bD x p=true):s.TypeIs u "list" /\ ∀ a,u= .ref a-> ∃ ob,s.heap.get? a=fI ob/\ob.dict=ox:=by
 cases x with
 | ref n =>
  simp only[bD] at e
  split at e
  . obtain⟨a,us,m,rfl,_,_,_,g⟩:=I.lst ‹_› r;exact⟨⟨_,g,rfl⟩,λb e=>by cases e;exact⟨_,g,rfl⟩⟩
  . cases e
 | _=>cases e
theorem aaM:dz X pg k->OM X "list" "list.append" aS bD:=λA=>⟨qq,λ{_ _ ρ p s Q _ _ _ _} I rx rs o=>by
 unfold aS at o;split at o
 . split at o
   . rename_i ys en;obtain⟨hl,o⟩:=Out.ite o;obtain⟨a,us,m,rfl,ea,r,z,g⟩:=I.lst en rx;obtain⟨u,_,rfl,r1,rfl⟩:=rs;have hz:us.length < sizeLine:=by rw[<- r.len];exact hl
     refine append_at (hsz:=by rw[Ss];exact z) g λh' sb e=>?_;rw[List.push_toArray] at e;have kp: ∀ b u,b≠a->s.heap.get? b=fI u->h'.get? b=fI u:=λb _ n q=>(sb.2 b n).trans q;have gr:Gr ρ s.heap ρ h':= .Ks (vs:=us) (m':=m) g kp;exact o ρ _ _ gr (I.Ks (t':=s.toks) en ea kp gr (r.app (.one r1)) (by rw[Sj];exact hz) e) rfl
   . exact o.elim
 . exact o.elim⟩
end
section
variable{X:Cx}{pg:Tb}{k:Nat}{pos:Pos}
section
variable{pins:List (Sl × Obj)}{v:ay}{ρ :Ps}{p:PH}{s:R8}{Q:RZ->R8->Prop}
theorem Inv.big(I:Inv X pins v ρ p s):U9 < s.heap.objs.size:=U2 (show U9 < UI by decide) (I.ok.mod.glob.keeps I.bk).lt
theorem RK.merge{h:SM}{more:List (Key × PV)}{mw:List (Key × RZ)}(m:RK ρ h more mw): ∀{kvs:List (Key × PV)}{kws:List (Key × RZ)},RK ρ h kvs kws->RK ρ h (cE kvs more) (Z8 kws mw):=by
 induction m with
 | nil=>exact λr=>r
 | @cons p q _ _ a t ih =>
  intro kvs kws r
  show RK ρ h (cE (jm _ p.1 p.2) _) (Z8 (Z9 _ q.1 q.2) _)
  refine ih ?_
  rw[<- a.1]
  exact RK.put r a.2
theorem jd: ∀(more kvs:List (Key × RZ)),(Z8 kvs more).length<=kvs.length+more.length
 | [],kvs=>Si _
 | p::r,kvs=>by
  have h1:=jd r (Z9 kvs p.1 p.2);have h2:=qG kvs p.1 p.2;show(Z8 (Z9 kvs p.1 p.2) r).length<=_;rw[Sb];omega
theorem uq{kvs:List (Key × PV)}{kus:List (Key × RZ)}{h':SM}{t':Nat}(I:Inv X pins v ρ p s)(r:RK ρ s.heap kvs kus)(hl:kus.length<=sizeLine)(kp: ∀ b u,s.heap.get? b=fI u->h'.get? b=fI u)(d:h'.DictOf (bg X.prog X.w) s.heap.objs.size kus)(o:Out X (RE X pins v ρ s.heap Q) (.ok (.ref p.length) (p++[.bu kvs]))) :
  Q (.ref s.heap.objs.size) { s with heap:=h',toks:=t'} :=
 o _ _ _ ((Gr.kept kp).more _) (I.new (t':=t') (q:=(s.heap.objs.size,fI s.heap.objs.size)) rfl kp (Si _) (Si _) ⟨rfl,beq_eq_false_iff_ne.mpr (VC (SW I.big)),kus,r.up ((Gr.kept kp).more _),hl,d⟩)
  ⟨(s.heap.objs.size,fI s.heap.objs.size),I.sim.end,rfl⟩
end
def RP(X:Cx)(pins:List (Sl × Obj))(e:ay)(ρ :Ps)(h:SM)(Q:List (RZ × RZ)->R8->Prop):List (Key × PV)->PH->Prop:=λkvs p=> ∀ ρ' s' ws rs,Gr ρ h ρ' s'.heap->Inv X pins e ρ' p s'->Carries (bg X.prog X.w) ws rs->RK ρ' s'.heap kvs rs->Q ws s'
structure JP(X:Cx)(pg:Tb)(k:Nat)(pos:Pos)(ks:List (Option Tr))(vs:List Tr)(m:MP):Prop where
 h: ∀{pins v ρ p s Q},dz X pg k->Inv X pins v ρ p s->Out X (RP X pins v ρ s.heap Q) (m (run pg k) v p)->SD (SN X.prog X.w) X.A (evalPairs (pairTrees ks vs X.env pos)) Q X.xe s
theorem Mz:JP X pg k pos [] [] DW:=⟨λ{_ _ ρ _ s _} _ I o=>pairTrees_nil_walk (o ρ s [] [] .refl I trivial .nil)⟩
theorem Gd{kk v:Tr}{ks:List (Option Tr)}{vs:List Tr}{mk mv:ME}{mp:MP}(hk:JE X pg k kk mk)(hv:JE X pg k v mv)(hr:JP X pg k pos ks vs mp):JP X pg k pos (fI kk::ks) (v::vs) (fS mk mv mp):=⟨λA I o=>by
 refine pairTrees_cons_walk (hk.h A I (o.go λx _ o _ _ _ g1 I1 r1=>?_));split at o
 . exact hv.h A I1 (o.go λ_ _ o _ _ _ g2 I2 r2=>hr.h A I2 (o.go λ_ _ o ρ3 s3 ws rs g3 I3 c r3=>o ρ3 s3 _ ((_,_)::rs) ((g1.trans g2).trans g3) I3 ⟨iZ ‹_› r1,rfl,c⟩ (.cons ⟨rfl,r2.up g3⟩ r3)))
 . exact o.elim⟩
theorem H8{ks:List (Option Tr)}{vs:List Tr}{mp:MP}(h:JP X pg k pos ks vs mp)(hall:ks.all (·.isSome)=true)(hl:ks.length=vs.length)(h0:ks≠[])(h15:ks.length<=15):JE X pg k (.Dict ks vs pos) (wA mp):=⟨λ{pins v ρ p s Q} A I o=>by
 have kp: ∀ b u,s.heap.get? b=fI u->(s.heap.push { cls:= .type "dict",data:= .dict #[]}).get? b=fI u:=λ_ _ e=>Sa _ e;have g0:Gr ρ s.heap (ρ.add [(s.heap.objs.size,fI s.heap.objs.size)]) (s.heap.push { cls:= .type "dict",data:= .dict #[]}):=(Gr.kept kp).more _;have nm:(s.heap.objs.size == U9)=false:=beq_eq_false_iff_ne.mpr (VC (SW I.big));have I0:=I.new (t':=s.toks) (q:=(s.heap.objs.size,fI s.heap.objs.size)) (o:= .bu []) rfl kp (Si _) (Si _) ⟨rfl,nm,[],.nil,SX _,W3 s.heap⟩;refine wpAny_Dict_walk (knd:=bg X.prog X.w) hall hl h0 h15 (h.h A I0 (o.go λkvs p1 o ρ1 s1 ws rs g1 I1 c r1=>?_));obtain⟨hc,o⟩:=Out.ite o;have ea:(ρ.add [(s.heap.objs.size,fI s.heap.objs.size)]).l[p.length]?=fI (s.heap.objs.size,fI s.heap.objs.size):=I.sim.end;have ea1:=g1.pre _ _ ea;obtain⟨a,kus,ee,e2,_,rk,_,d⟩:=I1.bu hc.1 ⟨_,ea1,rfl⟩;cases ee;cases rk;refine⟨rs,c,d,λh' d' hs=>?_⟩;obtain⟨oa,_,_,e0,_,dd0,_⟩:=id d;have kp': ∀ b u,b≠s.heap.objs.size->s1.heap.get? b=fI u->h'.get? b=fI u:=λb u n q=>(hs.2 b n).trans q;have g:Gr ρ1 s1.heap ρ1 h':= .write kp' ⟨oa,e0,.inr ⟨_,_,dd0⟩⟩;have hz:(Z8 [] rs).length<=sizeLine:=Sx (jd rs []) (by rw[<- Vz r1,S4,YQ];exact Sx hc.2 (by decide));exact o ρ1 _ _ ((g0.trans g1).trans g) (I1.wr hc.1 rfl ea1 rfl kp' rfl ⟨rfl,nm,_,(r1.merge .nil).up g,hz,d'⟩) ⟨_,ea1,rfl⟩⟩
theorem C5:JE X pg k (.Dict [] [] pos) uz:=⟨λ{pins v ρ p s Q} A I o=>wpAny_Dict_empty (uq I .nil (SX _) (λ_ _ e=>Sa _ e) (W3 s.heap) o)⟩
variable{x:Str}{kvs:List (Key × PV)}{i:Tr}{mi:ME}{pos':Pos}
theorem Hy(hd:pg.xG x=fI kvs)(hg:Gl X x)(hi:JE X pg k i mi)(hs:OS i)(hdb:autoParam ((x == ("__debug__" :Str))=false) cT):JE X pg k (.Subscript (.Name x pos') i pos) (tW kvs mi):=⟨λA I o=>by
 obtain⟨a,e1,e2,kus,hz,e3⟩:=A.xG x kvs hd;refine aaB XD.lookup hs (mU I hg e1 (hi.h A I (o.go λy _ o ρ1 s1 u g1 I1 r1=>?_)) hdb);obtain⟨d,rk⟩:=e3 s1.heap I1.B3;split at o
 . split at o
   . rename_i w ew;have rv:=(rk ρ1 I1.Pd).val ‹Key›;rw[ew] at rv;obtain⟨u',f1,f2⟩:=rv.some;exact⟨d.typeIs,wpAny_getItem_of (iZ ‹_› r1) d.mapOf f1 (Out.pure (Out.up (r:= .ok _ _) o g1) I1 f2)⟩
   . exact o.elim
 . exact o.elim⟩
structure M2(X:Cx)(o:Tr)(m:Str)(apos:Pos)(e f:Tr)(cpos:Pos):Prop where
 base:X3 o m X.env (Wm o X.env)=Wm o X.env
 jD:((Ez cpos (VU [e,f] X.env)).all (λx=> !x.1)&&(backToKw cpos (keywordEach [] X.env)).all (λx=>x.1.isSome)
  && decide (([e,f]:List Tr).length+([]:List Keyword).length+(if ([]:List Keyword).isEmpty then 0 else 1) < 30))=true
 line:(apos.endLine == cpos.line)=true
 trees:Ez cpos (VU [e,f] X.env)=[(false,Wm e X.env),(false,Wm f X.env)]
theorem Hu{o e f:Tr}{md me mf:ME}{apos cpos:Pos}(ho:JE X pg k o md)(he:JE X pg k e me)(hf:JE X pg k f mf)(m:M2 X o "get" apos e f cpos):JE X pg k (.Call (.Attribute o "get" apos) [e,f] [] cpos) (AV md me mf):=⟨λ{pins v ρ p s Q} A I o'=>by
 refine wpAny_Call_method m.base m.jD m.line PySem.F.plainAttrs_dict Zd PySem.F.type_dict_get (ho.h A I (o'.go λx _ o' _ s1 u g1 I1 r1=>?_));obtain⟨hd,o'⟩:=Out.ite o';cases x with
 | ref n =>
  simp only[iL] at hd
  split at hd
  . obtain⟨a,kus0,rfl,_,_,_,_,d0⟩:=I1.bu ‹_› r1;refine⟨d0.typeIs,λb e=>by cases e;obtain⟨ob,_,_,e0,c0,_⟩:=d0;exact⟨ob,e0,c0.2.1⟩,?_⟩;rw[m.trees];refine Vm rfl (VF (TG (he.h A I1 (o'.go λy _ o' _ _ iv g2 I2 r2=>TG (hf.h A I2 (o'.go λz _ o' ρ3 s3 fv g3 I3 r3=>Ur ?_))))));cases ek:jT y with
    | none=>simp only[ek] at o';exact o'.elim
    | some key =>
     simp only[ek] at o'
     split at o'
     . obtain⟨a',kus,ee,_,hm,rk,_,d⟩:=I3.bu ‹_› (r1.up (g2.trans g3));cases ee;refine call_meetsIn Zd d.typeIs PySem.F.entry_dict_get (PySem.F.args_dict_get_3 _ _ _) (meets_dict_get_default (bg X.prog X.w) a (iZ ek (r2.up g3)) hm fv) ⟨_,d.mapOf,Out.pure (Out.up (r:= .ok _ _) o' ((g1.trans g2).trans g3)) I3 ?_⟩;have:=rk.val key
       revert this
       cases c9 _ key<;>cases valueAt kus key<;>intro this<;>first | exact r3 | exact this | exact this.elim
     . exact o'.elim
  . cases hd
 | _=>cases hd⟩
end
set_option maxHeartbeats 4500000
section
variable{K:Sy}{pg:Tb}{k:Nat}
section
variable{prog:SP}{w:Tp}{A:TP}{E:RZ->R8->Prop}{s:R8}
theorem aa1{p:Sl}{kvs:List (Key × RZ)}{R:RZ->R8->Prop}(hS:(p == U9)=false)(hp:s.heap.DictOf (bg prog w) p kvs)(hz:kvs.length<=sizeLine)
  (q: ∀ g:SM,g.DictOf (bg prog w) s.heap.objs.size (Z8 [] kvs)->(∀ b o,s.heap.get? b=fI o->g.get? b=fI o)->R (.ref s.heap.objs.size) { s with heap:=g}) :
  SD (SN prog w) A (call (.type "dict") [.ref p]) R E s:=by
 let g0:=s.heap.push { cls:= .type "dict",data:= .dict #[]}
 have up: ∀ b o,s.heap.get? b=fI o->g0.get? b=fI o:=λb o e=>Sa _ e;have dn:g0.DictOf (bg prog w) s.heap.objs.size []:=W3 s.heap;have dp:=hp.at λo e=>up p o e;have ne:s.heap.objs.size≠p:=λe=>by
  obtain⟨o,_,_,ho,_⟩:=hp;exact absurd (Su ho) (by rw[e];exact TF _)
 refine Zr (Q₁ :=λz u=>z= .ref s.heap.objs.size/\u={ s with heap:=g0}) F.kt_called_dict (F.kt_typeCall_dict_1 _) F.entry_dict_init (kt_code_dict_new _ ⟨rfl,rfl⟩) ?_;rintro obj s1 ⟨rfl,rfl⟩;refine⟨dn.typeIs,F.args_dict_init_2 _ _,?_⟩
 with_unfolding_all refine mh (m:=X8 _ _) (mh (Zc dn.typeIs (Sg ?_)))
 refine mh (Vo dp.typeIs ?_);refine mh (mh (mh (YC dp.typeIs isSubtype_dict_dict ?_)));refine mh (WZ dp.typeIs F.slot_dict_iter.lookup (Sg ?_));refine mh (Sg (wpAny_mergeDict (hsz:=by simpa using hz) ne hS dn dp λg dg _ sb=>?_));exact mh (Sg (Sg ⟨rfl,q g dg λb o e=>(sb.2 b (SW (Su e))).trans (up b o e)⟩))
end
end
end _P
namespace _P
open PySem PySem.Spec PyProof.Rows _L
theorem aaR{TI TO}(Z:xi h z TI TO i1 i2 l1 l2 k)(kp: ∀ b∈[z,TI,TO,i1,i2],∀ o,h.get? b=fI o->h'.get? b=fI o):xi h' z TI TO i1 i2 l1 l2 k:=by
 obtain⟨a,b,⟨u,v,c⟩,⟨o1,d1,d2⟩,⟨o2,e1,e2⟩⟩:=Z;exact⟨kp _ (by simp) _ a,kp _ (by simp) _ b,⟨u,v,kp _ (by simp) _ c⟩,⟨o1,kp _ (by simp) _ d1,d2⟩,⟨o2,kp _ (by simp) _ e1,e2⟩⟩
abbrev tI(a:Sl):Obj:={ cls:= .type "tuple_iterator",data:= .fields #[.ref a,.int 0 0]}
abbrev Nz(h:SM)(a b:Sl):SM :=
 Uo (Uo (Uo (Uo (Uo h (tI a)) (tI b)) { cls:= .type "tuple",data:= .seq #[.ref h.objs.size,.ref (h.objs.size+1)]}) { cls:= .type "tuple",data:= .seq #[.none,.none]})
  { cls:= .type "zip",data:= .fields #[.none,.bool false,.bool false,.ref (h.objs.size+2),.ref (h.objs.size+3)]}
theorem uF a b us ws:MF (Vc.«zip.__new__» ⟨[.type "zip",.ref a,.ref b],[]⟩) (λ_ R u=>u.heap.IsTuple a us/\u.heap.IsTuple b ws/\R (.ok (.ret (.ref (u.heap.objs.size+4)))) { u with heap:=Nz u.heap a b}) :=
 .of_wp λprog w A R u hu=>by
  obtain⟨hp,gg,dd,tk,os⟩:=u;obtain⟨ha,hb,hr⟩:=hu;have sub:=sub_zip;have fa:=ha;have fb:Heap.IsTuple (Shared.heap ⟨hp.push (tI a),gg,dd,tk,os⟩) b ws:=by obtain⟨o,e,c⟩:=hb;exact⟨o,Sa _ e,c⟩
  wp_walk using Ux fa,Ux fb
  refine⟨_,rfl,?_⟩;simp only[TL];exact hr
section
variable{pg:Tb}{k:Nat}{a b:Tr}{ma mb:ME}{p pos:Pos}{els:List Tr}{j:Nat}{tpos:Pos}
theorem MR h l1 l2:xi (Nz h l1 l2) (h.objs.size+4) (h.objs.size+2) (h.objs.size+3) h.objs.size (h.objs.size+1) l1 l2 0/\(Nz h l1 l2).objs.size=h.objs.size+5:=by
 have n1:(Uo h (tI l1)).objs.size=h.objs.size+1:=TL ..;have n2:(Uo (Uo h (tI l1)) (tI l2)).objs.size=h.objs.size+2:=by rw[TL,n1]
 have n3:(Uo (Uo (Uo h (tI l1)) (tI l2)) { cls:= .type "tuple",data:= .seq #[.ref h.objs.size,.ref (h.objs.size+1)]}).objs.size=h.objs.size+3:=by rw[TL,n2]
 have n4:(Uo (Uo (Uo (Uo h (tI l1)) (tI l2)) { cls:= .type "tuple",data:= .seq #[.ref h.objs.size,.ref (h.objs.size+1)]}) { cls:= .type "tuple",data:= .seq #[.none,.none]}).objs.size=h.objs.size+4:=by rw[TL,n3]
 refine⟨⟨?_,?_,⟨.none,.none,?_⟩,⟨tI l1,?_,rfl,rfl⟩,⟨tI l2,?_,rfl,rfl⟩⟩,by rw[TL,n4]⟩
 . rw[<- n4];exact Sv _ rfl
 . refine Sa _ (Sa _ ?_);rw[<- n2];exact Sv _ rfl
 . refine Sa _ ?_;rw[<- n3];exact Sv _ rfl
 . exact Sa _ (Sa _ (Sa _ (Sa _ (Sv _ rfl))))
 . refine Sa _ (Sa _ (Sa _ ?_));rw[<- n1];exact Sv _ rfl
end
end _P
namespace _P
open PySem PySem.Spec PyProof.Rows _L
abbrev Me(its:List RZ)(n:Nat)(dd:Option Sl)(sl:Array (Option RZ)):Obj:={ cls:= .type "tuple",dict:=dd,data:= .seq its.toArray n,slots:=sl}
theorem yF l its n k u dd sl (h1: -(2 ^ 63)<=k) (h2:k < 2 ^ 63) (hs:(its.toArray.isEmpty||k == 1)=true) :
  MF (Vc.«tuple.__mul__» ⟨[.ref l,.int k u],[]⟩) (λ_ R s=>s.heap.get? l=fI (Me its n dd sl)/\R (.ok (.ret (.ref l))) s) :=
 .of_wp λprog w A R s h=>by
  obtain⟨hl,h⟩:=h;refine Uk (λz=>absurd z (yx h1 h2)) (λ_=>?_)
  wp_walk using TX hl,VG hl
  refine Uk (λ_=>?_) (λz=>absurd hs z)
  wp_walk using TX hl,VG hl
  exact⟨_,rfl,h⟩
theorem yB l its n k u dd sl (h1: -(2 ^ 63)<=k) (h2:k<=0) (hs: ¬ (its.toArray.isEmpty||k == 1)=true) :
  MF (Vc.«tuple.__mul__» ⟨[.ref l,.int k u],[]⟩) (λ_ R s=>s.heap.get? l=fI (Me its n dd sl)/\R (.ok (.ret (.ref s.heap.objs.size))) { s with heap:=s.heap.push { cls:= .type "tuple",data:= .seq #[]}}) :=
 .of_wp λprog w A R s h=>by
  obtain⟨hl,h⟩:=h;have hz:(decide (k<=0)||its.toArray.isEmpty)=true:=by simp[h2]
  refine Uk (λz=>absurd z (yx h1 (by lia))) (λ_=>?_)
  wp_walk using TX hl,VG hl
  refine Uk (λz=>absurd z hs) (λ_=>?_);refine Uk (λ_=>?_) (λz=>absurd hz z);exact mh (UB (Sg ⟨_,rfl,h⟩) (by size_fits))
theorem abk l its n (k:Int) u dd sl (h1:0 < k) (h2:(its.length)*k<=100000) (hk:k<=100000) (hs: ¬ (its.toArray.isEmpty||k == 1)=true) :
  MF (Vc.«tuple.__mul__» ⟨[.ref l,.int k u],[]⟩) (λ_ R s=>s.heap.get? l=fI (Me its n dd sl)/\R (.ok (.ret (.ref s.heap.objs.size))) { s with heap:=s.heap.push { cls:= .type "tuple",data:= .seq (Sz k.toNat its).flatten.toArray}}) :=
 .of_wp λprog w A R s h=>by
  obtain⟨hp,g,d,tk,os⟩:=s;obtain⟨hl,h⟩:=h;have f1:=AutoSeq1.idx_int;have hz: ¬ (decide (k<=0)||its.toArray.isEmpty)=true:=by
   simp_all
  have hc1: ¬ ((its.toArray.size)*k > (2 ^ 63 - 1) / 8):=by rw[Ss];lia
  have hc2: ¬ (Xr ((its.toArray.size)*k)=true):=by
   unfold Xr;rw[Ss,decide_eq_true_eq,show((sizeLine))=16777216 from by decide]
   lia
  have e0:Z7 (λx1 x2=>x1++x2) #[] (Sz k.toNat its.toArray)=(Sz k.toNat its).flatten.toArray:=by
   have:=foldl_rep its k.toNat [];rw[SG] at this;exact this
  wp_walk using TX hl,VG hl
  refine Uk (λz=>absurd z (yx (by lia) (by lia))) (λ_=>?_)
  wp_walk using TX hl,VG hl
  refine Uk (λz=>absurd z hs) (λ_=>?_);refine Uk (λz=>absurd z hz) (λ_=>?_);refine Uk (λhab=>absurd hab hc1) (λ_=>?_);refine Uk (λhab=>absurd hab hc2) (λ_=>?_);refine mh (UB (Sg ⟨_,rfl,?_⟩) ?_)
  . rw[e0];exact h
  . rw[e0];show(Sz _ its).flatten.toArray.size<=sizeLine;rw[Ss,len_rep,Ib];refine Sx (show its.length*k.toNat<=100000 from ?_) (by decide)
    lia
end _P
namespace _P
open PySem PySem.Spec PyProof.Rows _L
section
variable{prog:SP}{w:Tp}{A:TP}{E:RZ->R8->Prop}{s:R8}
theorem xA{t:Sl}{us:List RZ}{R:List RZ->R8->Prop}(ht:s.heap.IsTuple t us.toArray)(fits:us.length<=sizeLine)
  (q:R us { s with heap:=(s.heap.push (VJ "list" #[] 0)).update s.heap.objs.size (Tu (· ++us.toArray))}):SD (SN prog w) A (collect (.ref t)) R E s:=by
 obtain⟨ob,e1,e2,m,e3⟩:=id ht;have e1':=Sa (VJ "list" #[] 0) e1;have own:(s.heap.push (VJ "list" #[] 0)).get? s.heap.objs.size=fI (VJ "list" #[] 0):=Sv _ rfl;have sum:(#[])++us.toArray=us.toArray:=by simp
 refine mh (wpAny_runValue (Vw entry_proto_collect' (show SD _ _ (newList [] >>= λl=>again (.builtin "list.__iadd__" ⟨[l,.ref t],[]⟩)) _ _ s from ?_)));refine mh (WK (Sg ⟨Code.quiet_builtin _ (by decide +kernel),Vw entry_list_iadd' (show SD _ _ (VD _ (.ref t) _) _ _ { s with heap:=s.heap.push (VJ "list" #[] 0)} from ?_)⟩));refine mh (Vo (T:= "tuple") ⟨ob,e1',e2⟩ (Nk (by simp) (mh (LU e1' e3 (mh (LU own rfl ?_))))));refine KN (by simp) (mh (Ya own rfl (Sg ?_) (SX _) (by grind)));refine mh (VG (get?_update_seq own _) ?_);show SD _ _ (pure ((#[])++us.toArray).toList) R E _;rw[sum];exact Sg q
theorem pC{t:Sl}{us:List RZ}{ss:List Str}{R:RZ->R8->Prop}(ht:s.heap.IsTuple t us.toArray)(hS:Xb us ss)(n64:us.length < 64)
  (q: ∀(out:Array RZ)(ss':List Str),Xb out.toList ss'->ss'.Perm ss->QN ss'=true->R (.ref (s.heap.objs.size+1)) { s with heap:=Xe s.heap us out}):SD (SN prog w) A (call (.builtin "sorted") [.ref t]) R E s:=by
 refine VP LP yH GR (MZ (.ref t)) ?_;refine mh (m:=checkCount "sorted" 1 1 [TZ t].length) (Sg (mh (xA ht (_L.jD n64) (mh (WK ?_ (_L.jD n64))))));show SD _ _ _ _ _ { s with heap:=mT s.heap us};rw[gc];exact mh (Tv (nj (jQ s.heap us) hS n64 λout ss' a1 a2 a3=>Sg ⟨_,rfl,q out ss' a1 a2 a3⟩))
end
end _P
namespace _P
open PySem PySem.Spec PyProof.Rows _L
end _P
namespace _L
open PySem PySem.Spec PyProof.Rows
theorem pU: ∀{us ss},Xb us ss-> ∀ i hu(hs:i < ss.length),Xc a us[i]=(ss[i] == a):=by
 intro us ss h0
 induction h0 with
 | nil=>intro i hu hs;exact absurd hu (Y7 i)
 | cons x t h ih =>
  intro i hu hs
  cases i with
  | zero=>rfl
  | succ i=>exact ih i _ _
end _L
namespace _P
open PySem PySem.Spec PyProof.Rows _L
theorem CP(hh:A.handled=ox)(hne:l≠it) us :
  Draws prog w A it [it,l] us.size (λi v=>us[i]?=fI v) (λi h=>h.IsTupleIter it l i/\h.IsTuple l us) where
 live:=λ_ _ z=>by obtain⟨⟨o,e,_⟩,_⟩:=z;exact⟨o,e⟩
 frame:=λ_ _ _ z kp=>by
  obtain⟨⟨o,e,r⟩,⟨o2,e2,r2⟩⟩:=z;exact⟨⟨o,kp it (by simp) o e,r⟩,⟨o2,kp l (by simp) o2 e2,r2⟩⟩
 item:=λi s Q E hi z q=>jg z.1 z.2 (x:=us[i]) (by simp[hi]) λh' a b=>q _ h' s.toks (by simp[hi]) ⟨a,by obtain⟨o2,e2,r2⟩:=z.2;exact⟨o2,b.extBut _ _ hne e2,r2⟩⟩ b
 done:=λs Q E z q=>oF hh z.1 z.2 (by simp) q
abbrev Nm(h:SM)(a:Sl):SM:=Uo (Uo h (tI a)) { cls:= .type "enumerate",data:= .fields #[.none,.bool false,.ref h.objs.size,X5 0,.none,.none]}
theorem vG a us:MF (Vc.«enumerate.__new__» ⟨[.type "enumerate",.ref a],[]⟩) (λ_ R u=>u.heap.IsTuple a us/\R (.ok (.ret (.ref (u.heap.objs.size+1)))) { u with heap:=Nm u.heap a}) :=
 .of_wp λprog w A R u hu=>by
  obtain⟨hp,gg,dd,tk,os⟩:=u;obtain⟨ha,hr⟩:=hu;have sub:=sub_enumerate;have fa:=ha
  wp_walk using Ux fa
  refine wpAny_stack_any λz=>?_;refine Sg ?_;have fin1: ∀ v u,v=TZ (hp.objs.size+1)->u=(⟨Nm hp a,gg,dd,tk,os⟩:R8)->R (.ok (.ret v)) u:=λv u e1 e2=>by rw[e1,e2];exact hr
  split
  . rename_i c _ _ _ _ _;cases c == VH "enumerate" <;>(wp_walk using Ux fa;exact⟨_,rfl,fin1 _ _ (by simp[TL]) rfl⟩)
  . wp_walk using Ux fa
    exact⟨_,rfl,fin1 _ _ (by simp[TL]) rfl⟩
section
variable{pg:Tb}{k:Nat}{a:Tr}{ma:ME}{p pos:Pos}{els:List Tr}{j:Nat}{tpos:Pos}
theorem Mb h l:(∃ old,YR (Nm h l) (h.objs.size+1) h.objs.size ((0:Nat)) old)/\(Nm h l).IsTupleIter h.objs.size l 0:=by
 have n1:(Uo h (tI l)).objs.size=h.objs.size+1:=TL ..;refine⟨⟨.none,?_⟩,⟨tI l,?_,rfl,rfl⟩⟩
 . rw[<- n1];exact Sv _ rfl
 . refine Sa _ ?_;exact Sv _ rfl
end
end _P
namespace _L
open PySem PySem.Spec PyProof.Rows
open PySem.AutoSeq1 (wpAny_loadPart')
theorem aa0 f (J:List Nat-> β ->R8->Prop) Q
  (step: ∀ i r b u,J (i::r) b u->SD M A (f i b) (λz u'=>match z with
   | .yield b'=>J r b' u'
   | .done b'=>Q b' u') E u) (stop: ∀ b u,J [] b u->Q b u) (rg:Std.Legacy.Range) (b) (h:J (XO rg.start rg.size rg.step) b s):SD M A (forIn rg b f) Q E s:=by
 rw[Zz];exact wpAny_forIn_list f J Q step stop _ b h
theorem BZ l its n di sl x (e:RZ->Bool) (he: ∀ y,y∈its->MeetsSeq.EqGives y x (e y)) j hj (h1:e its[j]=true) (h0: ∀(m:Nat) hm,m < j->e its[m]=false) :
  MF (Vc.«tuple.index» ⟨[.ref l,x],[]⟩) (λ_ R s=>s.heap.get? l=fI { cls:= .type "tuple",dict:=di,data:= .seq its n,slots:=sl}/\R (.ok (.ret (.int (j) s.toks))) { s with toks:=s.toks+1}) :=
 .of_wp λprog w A R u hu=>by
  obtain⟨hp,gg,dd,tk,os⟩:=u;obtain⟨hl,hr⟩:=hu
  wp_walk using Za hl,aa0 _ (λrest b u'=>b=(ox,())/\u'=(⟨hp,gg,dd,tk,os⟩)/\ ∃ m,rest=XO m (its.size - m)/\m<=j) _
  case step =>
   rintro i r b u' ⟨rfl,rfl,m,em,mj⟩
   have hm:m < its.size:=by lia
   rw[show its.size - m=(its.size - (m+1))+1 by lia,YD] at em
   obtain⟨rfl,rfl⟩:=List.cons.inj em
   have ei:=Uv hm
   rw[ei]
   refine mh (he its[i] (Array.getElem_mem hm) prog w _ _ _ _ ?_)
   by_cases c:i=j
   . subst c;rw[h1]
     wp_walk
     exact⟨_,rfl,hr⟩
   . rw[h0 i hm (by lia)]
     wp_walk
     exact⟨rfl,rfl,i+1,rfl,by lia⟩
  case stop =>
   rintro b u' ⟨_,_,m,em,mj⟩
   have:=congrArg FH em
   rw[S4,List.length_range'] at this
   lia
  case h=>exact⟨rfl,rfl,0,by simp_all,SX _⟩
section
theorem places{a:Str}{t:Tok}{its:List RZ}{ss:List Str}(sa:Xb its ss)(ln:its.length=ss.length)(ha:a∈ss) :
  ∃ hj:ss.idxOf a < its.toArray.size,Xc a its.toArray[ss.idxOf a]=true/\ ∀(m:Nat)(hm:m < its.toArray.size),m < ss.idxOf a->Xc a its.toArray[m]=false:=by
 have hj:=yq ha;refine⟨by rw[Ss,ln];exact hj,?_,λm hm hlt=>?_⟩
 . show Xc a (its[ss.idxOf a]'(by rw[ln];exact hj))=true;rw[pU sa _ _ hj,V8 hj];exact beq_self_eq_true a
 . have hm':m < ss.length:=by simp_all
   show Xc a (its[m]'(by omega))=false;have nf:=YS hlt;rw[pU sa _ _ hm'];simpa using nf
variable{o e:Tr}{name:Str}{apos cpos:Pos}{id:String}
end
end _L
namespace _P
open PySem PySem.Spec PyProof.Rows _L
abbrev Be(h:SM)(z TI TO T:Sl)(b:Bool):Prop :=
 h.get? z=fI { cls:= .type "zip",dict:=ox,data:= .fields #[.int (T:Int) 0,.bool b,.bool false,.ref TI,.ref TO],slots:= #[]}
section
variable{prog:SP}{w:Tp}{A:TP}{E:RZ->R8->Prop}{s:R8}
theorem Ep{M:Model}{a:Sl}{Q:Option Obj->R8->Prop}(h:Q (s.heap.get? a) s):SD M A (loadIfAlive a) Q E s:=fun Γ p _=>(Sem.wp_loadIfAlive ..).mpr h
theorem tD{z TI TO T:Sl}{b:Bool}{oT:Obj}{Q:Bool->R8->Prop}(hz:Be s.heap z TI TO T b)(hT:s.heap.get? T=fI oT)
  (q: ∀ h',Be h' z TI TO T true->Xa z s.heap h'->Q false { s with heap:=h'}):SD (SN prog w) A (UK (.ref z)) Q E s:=by
 refine mh (S7 hz rfl rfl ?_);refine mh (Ep ?_);rw[SQ,hT];refine mh (S7 hz rfl (x:= .bool b) rfl ?_);cases b with
 | false =>
  refine Nk (by decide) (mh (Uy hz (by simp) λh1 z1 b1=>Sg ?_))
  exact q h1 z1 b1
 | true=>exact KN (by decide) (Sg (q s.heap hz ⟨rfl,λ_ _=>rfl⟩))
theorem aaT{z TI TO i1 i2 l1 l2 T:Sl}{b:Bool}{oT:Obj}{k:Nat}{xs ys:Array RZ}{x y:RZ}{Q:RZ->R8->Prop}(D:Wu z TI TO i1 i2 l1 l2)(hz:Be s.heap z TI TO T b)(hT:s.heap.get? T=fI oT)(hTI:UZ s.heap TI (.ref i1) (.ref i2))
  (h1:s.heap.IsListIter i1 l1 k) (h2:s.heap.IsListIter i2 l2 k) (hl1:s.heap.IsList l1 xs) (hl2:s.heap.IsList l2 ys) (hx:xs[k]?=fI x) (hy:ys[k]?=fI y)
  (q: ∀ h',Be h' z TI TO T true->h'.IsListIter i1 l1 (k+1)->h'.IsListIter i2 l2 (k+1)->UZ h' s.heap.objs.size x y->(∀ c o,c≠z->c≠i1->c≠i2->s.heap.get? c=fI o->h'.get? c=fI o)->Q (.ref s.heap.objs.size) { s with heap:=h'}):SD (SN prog w) A (Vc.«zip.__next__» ⟨[.ref z],[]⟩) (λr u=> ∃ v,r= .done (.ret v)/\Q v u) E s:=by
 refine mh (m:=YB _ 2) (S7 hz rfl (x:= .bool false) rfl ?_);refine mh (S7 hz rfl rfl (mh (T7 hTI rfl ?_)));refine mh (tD hz hT λu1 z1 b1=>KN (by decide) ?_);refine mh ?_;rw[<- M3,Ui];refine mh (mh (Tv (mh (Wv (h1.extBut b1.extBut D.i1z) (hl1.extBut b1.extBut D.l1z) hx λu2 p1 b2=>Sg ?_))));refine Sg ?_;dsimp only;rw[Ui];refine mh (mh (Tv (mh (Wv ((h2.extBut b1.extBut D.i2z).extBut b2.extBut D.i12.symm) ((hl2.extBut b1.extBut D.l2z).extBut b2.extBut D.l2i1) hy λu3 p2 b3=>Sg ?_))));refine Sg ?_;refine Sg ?_;refine mh (Zw ?_ (by show 2<=sizeLine;decide));have sz:=b3.1.trans (b2.1.trans b1.1);have up: ∀ c o,u3.get? c=fI o->(u3.push { cls:= .type "tuple",data:= .seq #[x,y]}).get? c=fI o:=λc o e=>Sa _ e;refine Sg ⟨_,rfl,show Q _ _ from ?_⟩;have T8:UZ _ u3.objs.size x y:=Sv _ rfl;rw[sz] at T8;rw[sz];exact q _ (up _ _ (b3.extBut _ _ D.i2z.symm (b2.extBut _ _ D.i1z.symm z1))) ((p1.extBut b3.extBut D.i12).at λo e=>up _ o e) (p2.at λo e=>up _ o e) T8 λc o n1 n2 n3 e=>up c o (b3.extBut _ _ n3 (b2.extBut _ _ n2 (b1.extBut _ _ n1 e)))
theorem Fy{z TI TO i1 i2 l1 l2 T:Sl}{b:Bool}{oT:Obj}{k:Nat}{xs ys:Array RZ}{Q:GU->R8->Prop}(hh:A.handled=ox)(D:Wu z TI TO i1 i2 l1 l2)(hz:Be s.heap z TI TO T b)(hT:s.heap.get? T=fI oT)(hTI:UZ s.heap TI (.ref i1) (.ref i2))
  (h1:s.heap.IsListIter i1 l1 k) (h2:s.heap.IsListIter i2 l2 k) (hl1:s.heap.IsList l1 xs) (hl2:s.heap.IsList l2 ys) (he:xs[k]?=ox\/ys[k]?=ox)
  (q: ∀ h' e,(∀ c o,c≠z->c≠i1->c≠i2->s.heap.get? c=fI o->h'.get? c=fI o)->(∃ o,h'.get? e=fI o/\o.cls= .type "StopIteration")->E (.ref e) { s with heap:=h'}):SD (SN prog w) A (Vc.«zip.__next__» ⟨[.ref z],[]⟩) Q E s:=by
 refine mh (m:=YB _ 2) (S7 hz rfl (x:= .bool false) rfl ?_);refine mh (S7 hz rfl rfl (mh (T7 hTI rfl ?_)));refine mh (tD hz hT λu1 z1 b1=>KN (by decide) ?_);refine mh ?_;rw[<- M3,Ui]
 match hx:xs[k]? with
 | none =>
  refine mh (mh (Tv (mh (Ze hh (h1.extBut b1.extBut D.i1z) (hl1.extBut b1.extBut D.l1z) hx λu2 e b2 g=>?_))))
  exact q u2 e (λc o n1 n2 _ y=>b2 _ _ n2 (b1.extBut _ _ n1 y)) g
 | some x =>
  have hy:=he.resolve_left (by simp_all)
  refine mh (mh (Tv (mh (Wv (h1.extBut b1.extBut D.i1z) (hl1.extBut b1.extBut D.l1z) hx λu2 p1 b2=>Sg ?_))))
  refine Sg ?_
  dsimp only
  rw[Ui]
  refine mh (mh (Tv (mh (Ze hh ((h2.extBut b1.extBut D.i2z).extBut b2.extBut D.i12.symm) ((hl2.extBut b1.extBut D.l2z).extBut b2.extBut D.l2i1) hy λu3 e b3 g=>?_))))
  exact q u3 e (λc o n1 n2 n3 y=>b3 _ _ n3 (b2.extBut _ _ n2 (b1.extBut _ _ n1 y))) g
structure pq(h:SM)(z TI TO i1 i2 l1 l2:Sl)(k:Nat)(xs ys:Array RZ):Prop where
 st:(∃ a b,Zx h z TI TO .none/\UZ h TO a b)\/ ∃ T b o,Be h z TI TO T b/\h.get? T=fI o/\T≠z/\T≠i1/\T≠i2/\T≠TO
 its:UZ h TI (.ref i1) (.ref i2)
 one:h.IsListIter i1 l1 k
 two:h.IsListIter i2 l2 k
 l1:h.IsList l1 xs
 l2:h.IsList l2 ys
theorem pq.ty{TI TO l1 l2}(Z:pq s.heap z TI TO i1 i2 l1 l2 k xs ys):s.TypeIs (.ref z) "zip" :=by
 rcases Z.st with⟨a,b,e,_⟩ | ⟨T,b,o,e,_⟩
 . exact⟨_,e,rfl⟩
 . exact⟨_,e,rfl⟩
theorem Bh{z TI TO i1 i2 l1 l2:Sl}{k:Nat}{xs ys:Array RZ}{x y:RZ}{Q:Option RZ->R8->Prop}(D:Wu z TI TO i1 i2 l1 l2)(Z:pq s.heap z TI TO i1 i2 l1 l2 k xs ys)(hx:xs[k]?=fI x)(hy:ys[k]?=fI y)
  (q: ∀ h',pq h' z TI TO i1 i2 l1 l2 (k+1) xs ys->UZ h' s.heap.objs.size x y->(∀ c o,c≠z->c≠TO->c≠i1->c≠i2->s.heap.get? c=fI o->h'.get? c=fI o)->Q (fI (.ref s.heap.objs.size)) { s with heap:=h'}):SD (SN prog w) A (X4 (.ref z)) Q E s:=by
 have ty:=Z.ty;obtain⟨st,hTI,h1,h2,hl1,hl2⟩:=Z;have lt: ∀{a:Sl}{v:Obj},s.heap.get? a=fI v->s.heap.objs.size≠a:=λy=>TB (Su y);have n1:s.heap.objs.size≠i1:=by obtain⟨_,e,_⟩:=h1;exact lt e
 have n2:s.heap.objs.size≠i2:=by obtain⟨_,e,_⟩:=h2;exact lt e
 rcases st with⟨a,b,hz,hTO⟩ | ⟨T,b,o,hz,hT,t1,t2,t3,t4⟩
 . refine wpAny_pyNext_zip_item D hz hTI hTO h1 h2 hl1 hl2 hx hy λh' a1 a2 a3 a4 a5 a6 hk=>q h' ⟨.inr ⟨_,false,_,a1,a5,lt hz,n1,n2,lt hTO⟩,hk _ _ D.TIz D.TITO D.TIi1 D.TIi2 hTI,a3,a4,hl1.at λo e=>hk _ o D.l1z D.l1TO D.l1i1 D.l1i2 e,hl2.at λo e=>hk _ o D.l2z D.l2TO D.l2i1 D.l2i2 e⟩ a5 hk
 . exact mh (Yd (TN ty TY (Ua TY ty Vp (aaT D hz hT hTI h1 h2 hl1 hl2 hx hy λh' a1 a3 a4 a5 hk=>Sg
    (q h' ⟨.inr ⟨_,true,_,a1,hk _ _ t1 t2 t3 hT,t1,t2,t3,t4⟩,hk _ _ D.TIz D.TIi1 D.TIi2 hTI,a3,a4,hl1.at λo e=>hk _ o D.l1z D.l1i1 D.l1i2 e,hl2.at λo e=>hk _ o D.l2z D.l2i1 D.l2i2 e⟩ a5 λc o n1 _ n3 n4 e=>hk c o n1 n3 n4 e)) (Vh _))))
theorem DD{z TI TO i1 i2 l1 l2:Sl}{k:Nat}{xs ys:Array RZ}{Q:Option RZ->R8->Prop}(hh:A.handled=ox)(D:Wu z TI TO i1 i2 l1 l2)(Z:pq s.heap z TI TO i1 i2 l1 l2 k xs ys)(he:xs[k]?=ox\/ys[k]?=ox)
  (q: ∀ h',(∀ c o,c≠z->c≠TO->c≠i1->c≠i2->s.heap.get? c=fI o->h'.get? c=fI o)->Q ox { s with heap:=h'}):SD (SN prog w) A (X4 (.ref z)) Q E s:=by
 have ty:=Z.ty;obtain⟨st,hTI,h1,h2,hl1,hl2⟩:=Z;rcases st with⟨a,b,hz,hTO⟩ | ⟨T,b,o,hz,hT,t1,t2,t3,t4⟩
 . exact wpAny_pyNext_zip_end hh D hz hTI hTO h1 h2 hl1 hl2 he q
 . exact mh (Yd (TN ty TY (Ua TY ty Vp (Fy hh D hz hT hTI h1 h2 hl1 hl2 he λh' e a1 g =>
    by obtain⟨o,g1,g2⟩:=g;exact mh (YC ⟨o,g1,g2⟩ isSubtype_stop (Sg (q h' λc o n1 _ n3 n4 e=>a1 c o n1 n3 n4 e)))) (Vh _))))
theorem pq.kept{TI TO l1 l2}(Z:pq h z TI TO i1 i2 l1 l2 k xs ys)(ns:S≠z/\S≠TI/\S≠TO/\S≠i1/\S≠i2/\S≠l1/\S≠l2)(kp: ∀ b o,b≠S->h.get? b=fI o->h'.get? b=fI o)
  (al: ∀ T o,h.get? T=fI o-> ∃ o',h'.get? T=fI o'):pq h' z TI TO i1 i2 l1 l2 k xs ys:=by
 obtain⟨n1,n2,n3,n4,n5,n6,n7⟩:=ns;obtain⟨st,hTI,h1,h2,hl1,hl2⟩:=Z;refine⟨?_,kp _ _ n2.symm hTI,h1.at λo e=>kp _ o n4.symm e,h2.at λo e=>kp _ o n5.symm e,hl1.at λo e=>kp _ o n6.symm e,hl2.at λo e=>kp _ o n7.symm e⟩;rcases st with⟨a,b,hz,hTO⟩ | ⟨T,b,o,hz,hT,t⟩
 . exact .inl ⟨a,b,kp _ _ n1.symm hz,kp _ _ n3.symm hTO⟩
 . obtain⟨o',e⟩:=al T o hT;exact .inr ⟨T,b,o',kp _ _ n1.symm hz,e,t⟩
end
end _P
namespace _P
open PySem PySem.Spec PyProof.Rows _L
theorem IS{M:Model}{A:TP}{α :Type}{b:Sem α}{Q: α ->R8->Prop}{E:RZ->R8->Prop}{s:R8}{args:PySem.Args}(h:SD M A.in1 b Q E s):SD M (A.under (.builtin "list.extend.loop" args)) b Q E s:=by
 rw[WR F.plain_extend_loop args];exact h
end _P
namespace _P
open PySem PySem.Spec PyProof.Rows _L
section
variable{pins:List (Sl × Obj)}{s:R8}
theorem zj:YN (.type "zip") "__len__" =pure ox:=by kernel_rfl
theorem wU:YN (.type "zip") "__length_hint__" =pure ox:=by rfl
theorem Bv{TI TO}(nz:S≠z)(hz:Zx s.heap z TI TO .none)(e:s.heap.get? S=fI { cls:= .type "list",dict:=ox,data:= .seq #[] c,slots:= #[]})
  (q: ∀ h' c',(∀ b o,b≠S->s.heap.get? b=fI o->h'.get? b=fI o)->h'.get? S=fI { cls:= .type "list",dict:=ox,data:= .seq #[] c',slots:= #[]}->WJ (SN prog w) A (.builtin "list.extend.loop" ⟨[.ref S,.ref z,res],[]⟩) R { s with heap:=h'}) :
  SD (SN prog w) A.in1 (VD (.ref S) (.ref z) res) (λfin u=>match fin with | .done f=>R (.ok f) u | .again d=>d.quiet=true/\WJ (SN prog w) A d R u) (λx u=>R (.error x) u) s:=by
 have ty:s.TypeIs (.ref z) "zip" :=⟨_,hz,rfl⟩
 have no: ¬ ((Yg (.ref S) (.ref z)||VH "zip" == VH "list" ||VH "zip" == VH "tuple")=true):=by simp[Yg,nz]
 have e1:=TH (Tu (·.push Tx)) e rfl
 have e2:=TH (Tu (·.pop)) e1 rfl
 have up: ∀ b o,b≠S->s.heap.get? b=fI o->((s.heap.update S (Tu (·.push Tx))).update S (Tu (·.pop))).get? b=fI o:=λb o n y=>by rw[S9 _ _ n.symm,S9 _ _ n.symm,y]
 have hint: ∀{Q:Bool->R8->Prop}{E:RZ->R8->Prop},Q true s->SD (SN prog w) A.in1 (Builtin.List.listLengthHint _) Q E s:=λg =>
  mh (WZ ty zj (mh (WZ ty wU (Sg g))))
 exact mh (Vo ty (KN no (mh (YE hz (mh (Tv (hint (Nk (by rfl) (mh (V6
  (mh (mh (W4 e rfl (W4 e1 rfl (Sg ⟨X7 F.plain_extend_loop _,q _ _ up e2⟩)))))))))))))))
theorem zq(e:s.heap.get? S=fI { cls:= .type "list",data:= .seq #[]})
  (q: ∀ h' c,(∀ b o,b≠S->s.heap.get? b=fI o->h'.get? b=fI o)->h'.get? S=fI { cls:= .type "list",dict:=ox,data:= .seq #[] c,slots:= #[]}->SD (SN prog w) A (VD (.ref S) v .none) R E { s with heap:=h'}) :
  SD (SN prog w) A (Vc.«list.__init__» ⟨[.ref S,v],[]⟩) R E s :=
 have e1:=TH (Tu (λ_=>(#[]))) e rfl
 mh (m:=seqItems? (.ref S) >>= _) (mh (T7 e rfl (Sg (mh (m:=updateSeq S λ_=> #[]) (W4 e rfl (mh (m:=letGo []) (Zy (q _ _ (λb o n y=>(S9 _ _ n.symm).trans y) e1))))))))
end
end _P
namespace _L
open PySem PySem.Spec PyProof.Rows
section
variable{prog:SP}{w:Tp}{A:TP}
def Kj prog w (h:SM) S (l:List Str):= ∃ ds:List Str,ds.Nodup/\(∀ k,k∈ds↔k∈l)/\h.SetOf (PySem.strKind prog w) S (λk=>decide (k∈ds)) ds.length
theorem Kj.at(x:Kj prog w h S l)(k: ∀ o,h.get? S=fI o->h'.get? S=fI o):Kj prog w h' S l:=by
 obtain⟨ds,a,b,o,es,ep,t,e,r⟩:=x;exact⟨ds,a,b,o,es,ep,t,k _ e,r⟩
end
end _L
namespace _P
open PySem PySem.Spec PyProof.Rows _L
end _P
namespace _L
open PySem PySem.Spec PyProof.Rows
end _L
namespace _L
open PySem PySem.Spec PyProof.Rows
def vS(h:SM)(v:RZ)(p:Pr):= ∃ x o n t u,v= .ref x/\h.get? x=fI o/\o.cls= .type "tuple" /\o.data= .seq #[.int p.1 t,.int p.2 u] n
noncomputable def aa5(c:Bool)(t:Tok):List RZ:=if c=true then[.str "need" t] else[]
def FR c h (v:RZ) (q:Qr):= ∃ b o n x y t,v= .ref b/\h.get? b=fI o/\o.cls= .type "tuple" /\o.data= .seq (aa5 c t++[x,y]).toArray n/\vS h x q.1/\vS h y q.2
theorem vS.kept(k: ∀ b o,h.get? b=fI o->h'.get? b=fI o)(x:vS h v p):vS h' v p:=let ⟨x,o,n,t,u,e,f,g⟩:=x;⟨x,o,n,t,u,e,k _ _ f,g⟩
theorem FR.kept(k: ∀ b o,h.get? b=fI o->h'.get? b=fI o)(x:FR c h v q):FR c h' v q:=let ⟨b,o,n,x,y,t,e,f,c,d,a1,a2⟩:=x;⟨b,o,n,x,y,t,e,k _ _ f,c,d,a1.kept k,a2.kept k⟩
theorem AW: ∀{vs qs},UX (FR c h) vs qs-> ∀{i},i < vs.length->FR c h (vs.getD i Tx) (qs.getD i q0):=by
 intro vs qs h0
 induction h0 with
 | nil=>intro i hi;exact absurd hi (Y7 _)
 | cons hp hr ih =>
  intro i hi
  cases i with
  | zero=>exact hp
  | succ i=>exact ih (YO hi)
def OB c h v:=if c=true then ∃ t,v= .str "need" t else ∃ p,vS h v p
theorem Dk: ∀{vs qs},UX (FR c h) vs qs-> ∃ fs,KatTups h vs fs/\fs.length=vs.length/\ ∀ v∈fs,OB c h v:=by
 intro vs qs h0
 induction h0 with
 | nil=>exact⟨[],.nil,rfl,λv m=>by cases m⟩
 | cons hp hr ih =>
  obtain⟨fs,k,l,st⟩:=ih
  obtain⟨b,o,n,x,y,t,rfl,e1,e2,e3,a1,a2⟩:=hp
  cases c with
  | false=>exact⟨x::fs,.cons e1 e2 e3 rfl k,congrArg (· +1) l,λv m=>(Sd.mp m).elim (λe=>⟨_,e.symm ▸ a1⟩) (st v)⟩
  | true=>exact⟨.str "need" t::fs,.cons e1 e2 e3 rfl k,congrArg (· +1) l,λv m=>(Sd.mp m).elim (λe=>⟨t,e⟩) (st v)⟩
section
variable{prog:SP}{w:Tp}{A:TP}{E:RZ->R8->Prop}{s:R8}{u v:RZ}{p q:Pr}
theorem ED(hu:A.units < Zn)(a:vS s.heap u p)(b:vS s.heap v q):Pt A s u v (decide (p=q)):=by
 obtain⟨x,o,n,t1,t2,rfl,e1,e2,e3⟩:=a;obtain⟨y,o',n',t1',t2',rfl,f1,f2,f3⟩:=b;by_cases z:x=y
 . subst z;rw[e1] at f1;cases f1;rw[e3] at f3;have hh:p.1=q.1/\p.2=q.2:=by simp at f3;exact⟨f3.1.1.1,f3.1.2.1⟩
   rw[decide_eq_true (vO hh.1 hh.2)];exact .same _
 . have:=SeqAt.EqAt.of_refs z (SeqAt.RcAt.tuples (e:=λj=>if j=0 then p.1 == q.1 else p.2 == q.2) ⟨o,e1,e2,n,e3⟩ ⟨o',f1,f2,n',f3⟩ hu λj h1 h2=>?_)
   . have e:((S6 (min 2 2)).all (λj=>if j=0 then p.1 == q.1 else p.2 == q.2)&&(2 == 2))=decide (p=q):=by
      rw[Uj];simp[List.range_succ,Oj]
     exact e ▸ this
   . rcases QV h1 with rfl | rfl
     . exact λP w E Q hq=>VM hq
     . exact λP w E Q hq=>VM hq
theorem aaS x y p1 p2 q1 q2:MF (Vc.«tuple.__lt__» ⟨[.ref x,.ref y],[]⟩) (λA R s=>vS s.heap (.ref x) (p1,p2)/\vS s.heap (.ref y) (q1,q2)/\R (.ok (.ret (.bool (decide (ltI (p1,p2) (q1,q2)))))) s) :=
 .of_wp λP w A R s h=>by
  obtain⟨hp,g,d,tk,os⟩:=s;obtain⟨⟨_,⟨c1,d1,da1,s1⟩,n,t1,t2,e0,e1,e2,e3⟩,⟨_,⟨c2,d2,da2,s2⟩,n',t1',t2',f0,f1,f2,f3⟩,h⟩:=h;cases e0;cases f0;dsimp only at e2 e3 f2 f3;subst e2 e3 f2 f3;have ft:=AutoSeq1.sub_tuple_tuple
  wp_walk using Za e1,Za f1,VM
  by_cases a:p1=q1
  . rw[if_neg (by simpa using a)]
    wp_walk using VM
    by_cases b:p2=q2
    . rw[if_neg (by simpa using b)]
      wp_walk
      rw[show decide _=false from decide_eq_false (by unfold ltI;omega)] at h;exact⟨_,rfl,h⟩
    . rw[if_pos (by simpa using b)];refine mh (V6 (mh (lt_int ?_)))
      wp_walk
      rw[show decide (ltI (p1,p2) (q1,q2))=decide (p2 < q2) from decide_eq_decide.mpr (by unfold ltI;omega)] at h;exact⟨_,rfl,h⟩
  . rw[if_pos (by simpa using a)];refine mh (V6 (mh (lt_int ?_)))
    wp_walk
    rw[show decide (ltI (p1,p2) (q1,q2))=decide (p1 < q1) from decide_eq_decide.mpr (by unfold ltI;omega)] at h;exact⟨_,rfl,h⟩
theorem DE{Q:RZ->R8->Prop}(hu:A.units < Zn)(a:vS s.heap u p)(b:vS s.heap v q)(h:Q (.bool (decide (ltI p q))) s):SD (SN prog w) A (UA .Lt u v) Q E s:=by
 obtain⟨x,o,n,t1,t2,rfl,e1,e2,e3⟩:=id a;obtain⟨y,o',n',t1',t2',rfl,f1,f2,f3⟩:=id b;exact richCompare_meets_room (op:= .Lt) ⟨o,e1,e2⟩ ⟨o',f1,f2⟩ PySem.F.slot_tuple_lt PySem.F.entry_tuple_lt (PySem.F.args_tuple_lt_2 _ _) (aaS x y p.1 p.2 q.1 q.2) ⟨a,b,(λz=>nomatch z),h⟩ hu
theorem wG{c b:Bool}{i:Nat}{C:Bool->R8->Prop}{x1 x2 y1 y2:RZ}{q r:Qr}(hu:A.units < Zn)(hb:(b&&i == 0)=false)(hb2:(b&&(i+1) == 0)=false)(g1:vS s.heap x1 q.1)(k1:vS s.heap y1 q.2)(g2:vS s.heap x2 r.1)(k2:vS s.heap y2 r.2)(ne:q≠r)(h:C (decide (ltQ q r)) s) :
  KatLex prog w A b c C [(x1,x2),(y1,y2)] i s:=by
 have back: ∀{m:Bool}{s':R8},m=decide _->s'=s->C m s':=λe e'=>by rw[e,e'];exact h
 refine kat_cons (ED hu g1 g2 _ _ _ _ ?_);by_cases a:q.1=r.1
 . rw[decide_eq_true a];refine kat_yes (kat_cons (ED hu k1 k2 _ _ _ _ ?_));rw[decide_eq_false (show ¬ q.2=r.2 from λz=>ne (vO a z))];refine kat_no ?_;rw[hb2];refine kat_one _ _ (DE hu k1 k2 (back (decide_eq_decide.mpr ?_) rfl));exact⟨λz=> .inr ⟨a,z⟩,λz=>z.elim (λy=>absurd (a ▸ y) (vh _)) (·.2)⟩
 . rw[decide_eq_false a];refine kat_no ?_;rw[hb];refine kat_one _ _ (DE hu g1 g2 (back (decide_eq_decide.mpr ?_) rfl));exact⟨.inl,λz=>z.elim id λy=>absurd y.1 a⟩
theorem HX{c:Bool}{vs:List RZ}{qs:List Qr}(hu:A.units < Zn)(hp:UX (FR c s.heap) vs qs)(nd:qs.Nodup){i j:Nat}{C:Bool->R8->Prop}(hi:i < vs.length)(hj:j < vs.length)(hij:i≠j)(h:C (cQ qs i j) s):N4 prog w A (BC c) vs i j C s:=by
 have hl:=Vz hp;obtain⟨b1,o1,n1,x1,y1,t1,e1,f1,c1,d1,g1,k1⟩:=AW hp hi;obtain⟨b2,o2,n2,x2,y2,t2,e2,f2,c2,d2,g2,k2⟩:=AW hp hj;have ne:qs.getD i q0≠qs.getD j q0:=λz=>by
  rw[SI,SI,R6 (hl ▸ hi),R6 (hl ▸ hj)] at z;exact hij ((Yn nd).mp z)
 unfold N4;rw[e1,e2];cases c with
 | false=>exact kat_lt f1 d1 f2 d2 (wG hu rfl rfl g1 k1 g2 k2 ne h)
 | true =>
  refine kat_lt f1 d1 f2 d2 (Xp "need" t1 "need" t2 _ _ _ _ ?_)
  exact kat_yes (wG hu rfl rfl g1 k1 g2 k2 ne h)
theorem Fo{c:Bool}{vs:List RZ}{qs:List Qr}(hp:UX (FR c s.heap) vs qs)(h2:2<=vs.length){Q':Zv->R8->Prop}(q:Q' (BC c) s):SD (SN prog w) A (Qx vs.toArray) Q' E s:=by
 obtain⟨fs,k,l,st⟩:=Dk hp;cases c with
 | true =>
  refine kat_kind (T:= .type "str") k (by omega) (λv m=>?_) (by decide) q
  obtain⟨t,rfl⟩:=st v m
  exact Looks.now
 | false =>
  refine kat_kind (T:= .type "tuple") k (by omega) (λv m=>?_) (by decide) q
  obtain⟨p,x,o,n,t,u,rfl,e,c,d⟩:=st v m
  exact c ▸ (show Looks _ s.heap _ o.cls from(Looks.ld e).andThen .now)
end
end _L
namespace _P
open PySem PySem.Spec PyProof.Rows _L
section
variable{prog:SP}{w:Tp}{A:TP}{E:RZ->R8->Prop}{s:R8}
abbrev QS(h:SM)(z TI TO:Sl)(f0:RZ)(bb:Bool):Prop :=
 h.get? z=fI { cls:= .type "zip",dict:=ox,data:= .fields #[f0,.bool bb,.bool false,.ref TI,.ref TO],slots:= #[]}
structure ND(h:SM)(z TI TO i1 i2 l1 l2:Sl)(k:Nat):Prop where
 st: ∃ f0 bb,QS h z TI TO f0 bb/\(f0= .none\/ ∃ T:Nat,f0= .int (T:Int) 0)
 its:UZ h TI (.ref i1) (.ref i2)
 old: ∃ a b,UZ h TO a b
 one:h.IsTupleIter i1 l1 k
 two:h.IsTupleIter i2 l2 k
theorem ND.ty{z TI TO i1 i2 l1 l2:Sl}{k:Nat}(Z:ND s.heap z TI TO i1 i2 l1 l2 k):s.TypeIs (.ref z) "zip" :=by
 obtain⟨f0,bb,e,_⟩:=Z.st;exact⟨_,e,rfl⟩
end
end _P
namespace _P
open PySem PySem.Spec PyProof.Rows _L
section
variable{X:Cx}{pg:Tb}{k:Nat}
theorem Gq:dz X pg k->O2 X (Xj .FloorDiv) kZ:=λ_=>Qn (C:=λ_ j=>0 < j/\j < 18446744073709551616) λi j _ _ _ _ _ h q=>by
 have z:j.natAbs≠0:=by omega
 have lg:j.natAbs.log2 < 64:=(Nat.log2_lt z).mpr (by omega);exact floordiv_int (by omega) (by rw[Int.fdiv_eq_ediv_of_nonneg i (by omega)];exact q) (.inl (PyProof.noPylong_of_log2 (by omega)))
section
variable{ρ :Ps}{h:SM}
theorem aB.rep{xs:List PV}{us:List RZ}(r:aB ρ h xs us): ∀ n:Nat,aB ρ h (Sz n xs).flatten (Sz n us).flatten
 | 0=>rfl
 | n+1=>by rw[VR,VR,XN,XN];exact r.app (r.rep n)
theorem eH: ∀{ss:List Str}{us:List RZ},aB ρ h (ss.map PV.str) us↔Xb us ss:=λ{ss}=>by
 induction ss with
 | nil=>exact λ{us}=>⟨λr=>by cases(show us=[] from r);exact .nil,λr=>by cases r;rfl⟩
 | cons b t ih =>
  exact λ{us}=>⟨λr=>by obtain⟨v,w,rfl,⟨t,rfl⟩,r2⟩:=r;exact .cons b t (ih.mp r2),λr=>by cases r with | cons _ t q=>exact⟨_,_,rfl,⟨t,rfl⟩,ih.mpr q⟩⟩
theorem aB.pick{xs:List PV}{us:List RZ}(r:aB ρ h xs us)(d:PV)(e:RZ): ∀{is:List Nat},(∀ i∈is,i < xs.length)->aB ρ h (is.map λi=>xs.getD i d) (is.map λi=>us.getD i e)
 | [],_=>rfl
 | i::t,hi=>by
  have hl:=hi i So;obtain⟨u,e1,e2⟩:=r.get (R6 hl);refine⟨_,_,rfl,?_,r.pick d e λj m=>hi j (Sk _ m)⟩;show rel ρ h (xs.getD i d) (us.getD i e);rw[SI,SI,R6 hl,e1];exact e2
end
theorem Li:dz X pg k->O2 X (Xj .Mult) dH:=λ_ {_ _ ρ p s Q x y u w} I rx ry o=>by
 unfold dH at o;split at o
 . obtain⟨t,rfl⟩:=rx;obtain⟨t',rfl⟩:=ry;obtain⟨c,o⟩:=Out.ite o;exact PyProof.Rows.mul_int (o.pure I ⟨_,rfl⟩) (aa7 c)
 . rename_i xs k;obtain⟨hc,o⟩:=Out.ite o;obtain⟨t,rfl⟩:=ry;have rx':=rx;obtain⟨a,us,rfl,r,z,tn⟩:=rx;obtain⟨⟨cls,dd,data,sl⟩,ho,c0,n,hd,_⟩:=id tn;simp only at c0 hd;subst c0 hd;have hlen:=r.len;have hl2:(Sz k.toNat us).flatten.length<=sizeLine:=by
    rw[len_rep,Ib];refine Sx (show us.length*k.toNat<=100000 from ?_) (by decide);by_cases hk:0<=k
    . have e1:((us.length*k.toNat:Nat):Int)=(us.length:Int)*k:=by rw[Int.natCast_mul,Int.toNat_of_nonneg hk]
      rw[hlen] at hc;omega
    . rw[show k.toNat=0 by omega];exact SX _
   refine XE (T:= "tuple") (U:= "int") (by decide) ⟨_,ho,rfl⟩ (λs'=>sx s' k t) oA PySem.F.fills_int_mul Zf vA PySem.F.slot_int_index.lookup
    (US Zf (sx s k t) PySem.F.entry_int_rmul (PySem.F.args_int_rmul_2 _ _) (qD k t a us.toArray n dd sl) ⟨ho,rfl,⟨_,ho,rfl⟩,?_⟩)
   by_cases hb:(us.toArray.isEmpty||k == 1)=true
   . refine US UH ⟨_,ho,rfl⟩ We (VZ _ _) (yF a us n k t dd sl (by omega) (by omega) hb) ⟨ho,o.cg I ?_⟩;rw[V2] at hb;rcases hb with z | z
     . obtain rfl:us=[]:=by simpa using z
       obtain rfl:xs=[]:=Ue hlen;rw[show(Sz k.toNat ([]:List PV)).flatten=[] by simp];exact rx'
     . obtain rfl:k=1:=by simpa using z
       rw[show(Sz (1:Int).toNat xs).flatten=xs by simp];exact rx'
   . by_cases hk:0 < k
     . exact US UH ⟨_,ho,rfl⟩ We (VZ _ _) (abk a us n k t dd sl hk (by rw[<- hlen];exact hc.1) hc.2.2 hb) ⟨ho,km I (r.rep k.toNat) hl2 o⟩
     . refine US UH ⟨_,ho,rfl⟩ We (VZ _ _) (yB a us n k t dd sl (by omega) (by omega) hb) ⟨ho,?_⟩;have e0:k.toNat=0:=by omega
       have:=km (t':=s.toks) (n:=0) I (r.rep k.toNat) hl2 o;rw[e0] at this;exact this
 . rename_i n k;split at o
   . rename_i xs en;obtain⟨hc,o⟩:=Out.ite o;obtain⟨t,rfl⟩:=ry;obtain⟨a,us,m,rfl,_,r,z,e⟩:=I.lst en rx;have hlen:us.toArray.size*k.toNat<=sizeLine:=by rw[Ss,<- r.len];exact hc.2
     have hcap: ¬ us.toArray.size*k.toNat > (2 ^ 63 - 1) / 8:=by
      have:(sizeLine:Nat)<=(2 ^ 63 - 1) / 8:=by decide
      omega
     have hfit: ¬ (!Builtin.List.listFitsIndex k)=true:=by
      rw[fitsIndex_both hc.1.1 hc.1.2];exact T6
     have hlong: ¬ XU (us.toArray.size*k.toNat)=true:=by
      rw[CN hlen];exact T6
     have hnew:Z7 (λx1 x2=>x1++x2) #[] (Sz (if us.toArray.isEmpty=true then 0 else k.toNat) us.toArray)=(Sz k.toNat us).flatten.toArray:=by
      have f0: ∀ m:Nat,Z7 (λx1 x2=>x1++x2) #[] (Sz m us.toArray)=(Sz m us).flatten.toArray:=λm=>by
       have:=foldl_rep us m [];rw[SG] at this;exact this
      rw[f0];cases us with
      | nil=>simp
      | cons a r'=>rw[if_neg (by simp)]
     refine XE (T:= "list") (U:= "int") (by decide) ⟨_,e,rfl⟩ (λs'=>sx s' k t) noFill_list_mul F.fills_int_mul F.slot_int_rmul repeat_list F.slot_int_index.lookup
      (US F.slot_int_rmul (sx s k t) F.entry_int_rmul (F.args_int_rmul_2 _ _) (int___rmul___int_list k t a us.toArray m)
       ⟨e,rfl,⟨_,e,rfl⟩,US F.slot_list_mul ⟨_,e,rfl⟩ F.entry_list_mul (F.args_list_mul_2 _ _) (AutoListH.list___mul___list_int_3 a us.toArray m k t hfit hcap hlong) ⟨e,?_⟩⟩)
     rw[hnew];exact pJ I (r.rep k.toNat) (by rw[len_rep,Ib,<- r.len];exact hc.2) o
   . exact o.elim
 . exact o.elim
section
variable{pins:List (Sl × Obj)}{v:ay}{ρ :Ps}{p:PH}{s:R8}{Q:RZ->R8->Prop}
theorem AX{P:SP}{w:Tp}{h:SM}: ∀{xs:List PV}{kvs:List (Key × PV)}{us:List RZ},k8 xs=fI kvs->aB ρ h xs us-> ∃ kus:List (Key × RZ),RK ρ h kvs kus/\kus.length=us.length/\ ∀(j:Nat)(v:RZ)(kv:Key × RZ),us[j]?=fI v->kus[j]?=fI kv->nP P w h v kv:=λ{xs}=>by
 induction xs with
 | nil=>intro kvs us e r;cases e;cases(show us=[] from r);exact⟨[],.nil,rfl,λj v kv e=>by simp at e⟩
 | cons x t ih =>
  intro kvs us e r
  simp only[k8] at e
  split at e
  . rename_i q qs e1 e2;cases e;obtain⟨v,w,rfl,r1,r2⟩:=r;obtain⟨kus,h1,h2,h3⟩:=ih e2 r2;cases x with
    | tup ys =>
     match ys,e1,r1 with
     | [a,b],e1,r1 =>
      simp only[pairP?] at e1
      obtain⟨key,hk,e1⟩:=Ta.mp (show(jT a).map (λk=>(k,b))=fI q by revert e1;cases jT a<;>exact id)
      cases e1
      obtain⟨c,vs,rfl,⟨u,_,rfl,ru,u',_,rfl,ru',rfl⟩,_,o,f1,f2,n,f3,_⟩:=r1
      refine⟨(key,u')::kus,.cons ⟨rfl,ru'⟩ h1,by simp[h2],λj v kv g1 g2=>?_⟩
      cases j with
      | zero =>
       simp only[List.getElem?_cons_zero,XQ] at g1 g2
       subst g1 g2
       exact⟨c,o,u,n,rfl,f1,f2,f3,iZ hk ru⟩
      | succ j=>exact h3 j v kv (by simpa using g1) (by simpa using g2)
    | _=>cases e1
  . cases e
theorem tU{xs:List PV}{us:List RZ}{h':SM}{t' n:Nat}{a:Sl}(I:Inv X pins v ρ p s)(r:aB ρ s.heap xs us)(hl:us.length<=sizeLine)(kp: ∀ b u,s.heap.get? b=fI u->h'.get? b=fI u)(ha:s.heap.objs.size<=a)(e:h'.get? a=fI { cls:= .type "list",data:= .seq us.toArray n})(o:Out X (RE X pins v ρ s.heap Q) (.ok (.ref p.length) (p++[.lst xs]))) :
  Q (.ref a) { s with heap:=h',toks:=t'} :=
 o _ _ _ ((Gr.kept kp).more _) (I.new (t':=t') (q:=(a,fI a)) rfl kp ha ha ⟨rfl,us,r.up ((Gr.kept kp).more _),hl,n,e⟩) ⟨(a,fI a),I.sim.end,rfl⟩
end
theorem aap:dz X pg k->OL X (λus=>call (.type "dict") us) wQ:=λA {_ _ ρ p s Q _ _} I r o=>by
 unfold wQ at o;split at o
 . split at o
   . rename_i kvs e;obtain⟨hl,o⟩:=Out.ite o;obtain⟨u,_,rfl,⟨a,us,rfl,rr,z,ob,e1,e2,n,e3,e4⟩,rfl⟩:=r;obtain⟨kus,h1,h2,h3⟩:=AX (P:=X.prog) (w:=X.w) e rr;have hz:us.length < sizeLine:=by rw[<- rr.len];exact hl
     exact sd (kvs:=kus) (I.ok.hd A.calm) I.big e1 e2 e3 e4 (by simpa using h2) (by simpa using hz) (λj v kv f1 f2=>h3 j v kv (by simpa using f1) f2) λh' tk dd keep=>uq I (h1.merge .nil) (Sx (jd kus []) (by rw[h2,S4,YQ];exact z.1)) keep dd o
   . exact o.elim
 . split at o
   . rename_i kvs en;obtain⟨hl,o⟩:=Out.ite o;obtain⟨u,_,rfl,r,rfl⟩:=r;obtain⟨a,kus,rfl,_,hm,rk,z,d⟩:=I.bu en r;exact aa1 hm d z λg dd keep=>uq (t':=s.toks) I (rk.merge .nil) (Sx (jd kus []) (by rw[S4,YQ];exact z)) keep dd o
   . exact o.elim
 . exact o.elim
theorem IG:dz X pg k->OL X (λus=>call (.builtin "repr") us) iy:=λA {_ _ ρ p s Q _ _} I r o=>by
 have fin: ∀{x:PV}{a:Sl}{d:Vd},rel ρ s.heap x (.ref a)->dat 6 p x=fI d->Out X (RE X _ _ ρ s.heap Q) (if zk d then .ok (.str d.shown) p else .no)->SD (SN X.prog X.w) X.A (call (.builtin "repr") [.ref a]) Q X.xe s:=λ{x a d} r e o=>by
  obtain⟨c,o⟩:=Out.ite o;obtain⟨as,ra⟩:=I.rd 6 x d _ e r;exact repr_of_reads' ra c.1 (λz=>by rw[c.2.1] at z;cases z) A.room.gd (by have:=A.room.un;have:=c.2.2.1;omega) (λ_ _ z=>z) (λh' u tk kp=>o ρ _ _ (.kept kp) (I.kept kp) ⟨u,rfl⟩) c.2.2.2
 unfold iy at o;split at o
 . obtain⟨u,_,rfl,r,rfl⟩:=r;cases r;exact PySem.P.repr_of_bool (o.pure I ⟨_,rfl⟩)
 . obtain⟨u,_,rfl,r,rfl⟩:=r;cases r;exact PySem.P.repr_of_none (o.pure I ⟨_,rfl⟩)
 . split at o
   . obtain⟨u,_,rfl,r,rfl⟩:=r;have r':=r;obtain⟨a,_,rfl,_⟩:=r;exact fin r' ‹_› o
   . exact o.elim
 . split at o
   . obtain⟨u,_,rfl,r,rfl⟩:=r;have r':=r;obtain⟨a,_,rfl⟩:=r;exact fin r' ‹_› o
   . exact o.elim
 . exact o.elim
theorem Dr:dz X pg k->OM X "list" "list.index" i8 bD:=λA=>⟨qq,λ{_ _ ρ p s Q _ _ _ _} I rx rs o=>by
 unfold i8 at o;split at o
 . rename_i n a;split at o
   . rename_i ys en;split at o
     . rename_i ss es;obtain⟨ha,o⟩:=Out.ite o;obtain⟨l,us,m,rfl,ea,r,z,e⟩:=I.lst en rx;obtain⟨u,_,rfl,⟨t,rfl⟩,rfl⟩:=rs;rw[gK es] at r;have ln:us.length=ss.length:=by rw[<- r.len,xn]
       have sa:=eH.mp r;obtain⟨hj,h1,h0⟩:=places (t:=t) sa ln ha;exact US F.slot_list_index ⟨_,e,rfl⟩ F.entry_list_index (F.args_list_index_2 _ _)
        (MeetsSeq.list_index l us.toArray m (.str a t) (Xc a) (λy hy=>eq_isStrOf a t sa y (by simpa using hy)) (ss.idxOf a) hj (by have:ss.idxOf a < ss.length:=yq ha;have:sizeLine=16777216:=rfl;omega) h1 h0) ⟨e,o.pure I ⟨_,rfl⟩⟩
     . exact o.elim
   . exact o.elim
 . exact o.elim⟩
section
variable{pins:List (Sl × Obj)}{v:ay}{ρ :Ps}{p:PH}{s:R8}
theorem Inv.P9{n m t':Nat}{xs ys:List PV}{us vs:List RZ}{f:Array RZ->Array RZ}{a:Sl}(I:Inv X pins v ρ p s)(en:p[n]?=fI (.lst xs))(ea: ρ.l[n]?=fI (a,fI a))(e:s.heap.get? a=fI { cls:= .type "list",data:= .seq us.toArray m})(hf:f us.toArray=vs.toArray)(r:aB ρ s.heap ys vs)(hl:vs.length<=sizeLine) :
  Gr ρ s.heap ρ (s.heap.update a (Tu f))/\Inv X pins v ρ (p.set n (.lst ys)) { s with heap:=s.heap.update a (Tu f),toks:=t'}:=by
 have q:=PySem.IsL.update e f;rw[hf] at q;have kp: ∀ b u,b≠a->s.heap.get? b=fI u->(s.heap.update a (Tu f)).get? b=fI u:=λb u hb hu=>(S9 s.heap (Tu f) (VC hb)).trans hu;have g:Gr ρ s.heap ρ (s.heap.update a (Tu f)):= .Ks (vs:=us) (m':=m) e kp;exact⟨g,I.Ks (t':=t') en ea kp g r hl q⟩
theorem aB.erase{h:SM}: ∀{xs:List PV}{us:List RZ},aB ρ h xs us-> ∀ i,aB ρ h (xs.eraseIdx i) (us.eraseIdx i):=λ{xs}=>by
 induction xs with
 | nil=>intro us r i;cases(show us=[] from r);exact rfl
 | cons x t ih =>
  intro us r i
  obtain⟨u,w,rfl,r1,r2⟩:=r
  cases i with
  | zero=>exact r2
  | succ i=>exact⟨u,_,rfl,r1,ih r2 i⟩
end
theorem Ft:dz X pg k->OM X "list" "list.remove" nE bD:=λA=>⟨qq,λ{_ _ ρ p s Q _ _ _ _} I rx rs o=>by
 unfold nE at o;split at o
 . rename_i n a;split at o
   . rename_i ys en;split at o
     . rename_i ss es;obtain⟨ha,o⟩:=Out.ite o;obtain⟨l,us,m,rfl,ea,r,z,e⟩:=I.lst en rx;obtain⟨u,_,rfl,⟨t,rfl⟩,rfl⟩:=rs;rw[gK es] at r;have ln:us.length=ss.length:=by rw[<- r.len,xn]
       have sa:=eH.mp r;have hj:=yq ha;refine US F.slot_list_remove ⟨_,e,rfl⟩ F.entry_list_remove (F.args_list_remove_2 _ _)
        (MeetsSeq.list_remove l us.toArray m (.str a t) (Xc a) (λy hy=>eq_isStrOf a t sa y (by simpa using hy)) (ss.idxOf a) (by rw[Ss,ln];exact hj) ?_ ?_ (by rw[Ss];exact z)) ⟨e,?_⟩
       . show Xc a (us[ss.idxOf a]'(by rw[ln];exact hj))=true;rw[pU sa _ _ hj,V8 hj,beq_self_eq_true]
       . intro m hm hlt;have hm':m < ss.length:=by rw[Ss,ln] at hm;exact hm
         show Xc a (us[m]'(by rw[ln];exact hm'))=false;rw[pU sa _ _ hm'];have:=YS (p:=(· == a)) (xs:=ss) (i:=m) hlt
         simpa using this
       . have rr:=r.erase (ss.idxOf a);rw[tM] at rr;obtain⟨g,J⟩:=I.P9 (t':=s.toks) (f:=λxs=>xs.eraseIdxIfInBounds (ss.idxOf a)) (vs:=us.eraseIdx (ss.idxOf a)) en ea e (by rw[List.eraseIdxIfInBounds_toArray]) rr (Sx (tK us _) z);exact o ρ _ _ g J rfl
     . exact o.elim
   . exact o.elim
 . exact o.elim⟩
end
set_option maxHeartbeats 1000000
section
variable{ρ :Ps}{h:SM}
theorem nJ{x y:PV}{us:List RZ}(r:aB ρ h [x,y] us): ∃ u w,us=[u,w]/\rel ρ h x u/\rel ρ h y w:=by
 obtain⟨u,_,rfl,r1,w,_,rfl,r2,rfl⟩:=r;exact⟨u,w,rfl,r1,r2⟩
theorem RK.keys{κ :Type}{kvs:List (κ × PV)}{kws:List (κ × RZ)}(r:RK ρ h kvs kws):kws.map (·.1)=kvs.map (·.1):=by
 induction r with
 | nil=>rfl
 | cons a t ih=>rw[R9,R9,ih,a.1]
theorem LK: ∀{ps:List (Str × Int)}{us:List RZ},aB ρ h (ps.map eW) us->UX (Gy h) us ps:=λ{ps}=>by
 induction ps with
 | nil=>intro us r;cases(show us=[] from r);exact .nil
 | cons b t ih =>
  intro us r
  obtain⟨u,w,rfl,⟨a,vs,rfl,r1,_,o,e1,e2,n,e3,_⟩,r2⟩:=r
  obtain⟨x,y,rfl,⟨t1,rfl⟩,⟨t2,rfl⟩⟩:=nJ r1
  exact .cons ⟨a,o,n,t1,t2,rfl,e1,e2,e3⟩ (ih r2)
theorem vm{p:Pr}{u:RZ}(r:rel ρ h (nG p) u):vS h u p:=by
 obtain⟨a,vs,rfl,r1,_,o,e1,e2,n,e3,_⟩:=r;obtain⟨x,y,rfl,⟨t1,rfl⟩,⟨t2,rfl⟩⟩:=nJ r1;exact⟨a,o,n,t1,t2,rfl,e1,e2,e3⟩
theorem K9{c:Bool}: ∀{qs:List Qr}{us:List RZ},aB ρ h (qs.map (CB c)) us->UX (FR c h) us qs:=λ{qs}=>by
 induction qs with
 | nil=>intro us r;cases(show us=[] from r);exact .nil
 | cons b t ih =>
  intro us r
  obtain⟨u,w,rfl,⟨a,vs,rfl,r1,_,o,e1,e2,n,e3,_⟩,r2⟩:=r
  refine .cons ?_ (ih r2)
  cases c with
  | false =>
   obtain⟨x,y,rfl,d1,d2⟩:=nJ r1
   exact⟨a,o,n,x,y,0,rfl,e1,e2,e3,vm d1,vm d2⟩
  | true =>
   obtain⟨z,zs,rfl,⟨t0,rfl⟩,r1⟩:=r1
   obtain⟨x,y,rfl,d1,d2⟩:=nJ r1
   exact⟨a,o,n,x,y,t0,rfl,e1,e2,e3,vm d1,vm d2⟩
theorem aB.picks{α :Type}{f: α ->PV}{l:List α}{us:List RZ}(r:aB ρ h (l.map f) us)(d: α){is:List Nat}(hi: ∀ i∈is,i < l.length):aB ρ h ((is.map λi=>l.getD i d).map f) (is.map λi=>us.getD i .none):=by
 have q:=r.pick (f d) .none (is:=is) (λi m=>by rw[xn];exact hi i m);rw[Tf];refine(congrArg (λl=>aB ρ h l (is.map λi=>us.getD i .none)) (UE λi m=>?_)).mp q;show(l.map f).getD i (f d)=f (l.getD i d);rw[SI,SI,Sq];cases l[i]?<;>rfl
theorem ints.aB: ∀{ns:List Int}{us:List RZ},ZG us ns->aB ρ h (ns.map PV.int) us:=λ{ns}=>by
 induction ns with
 | nil=>intro us r;cases r;rfl
 | cons b t ih=>intro us r;cases r with | cons _ t q=>exact⟨_,_,rfl,⟨t,rfl⟩,ih q⟩
end
section
variable{X:Cx}{pins:List (Sl × Obj)}{v:ay}{ρ :Ps}{p:PH}{s:R8}{Q:RZ->R8->Prop}
theorem Fd{b:Sl}(I:Inv X pins v ρ p s)(e:s.heap.get? b=ox): ¬ dF ρ b:=λt=>by
 obtain⟨q,m,d,hd,z⟩:=t;obtain⟨i,hi⟩:=Wz.mp m;have hi':i < p.length:=by rw[<- I.sim.len];exact(RY.mp hi).1
 obtain⟨⟨u,x⟩,w,x2,_⟩:=(I.sim.ob i _ q (R6 hi') hi).there hd;rcases z with z | z
 . rw[z,x] at e;cases e
 . rw[z,x2] at e;cases e
theorem xv{xs:List PV}{us:List RZ}{h':SM}{t' n:Nat}{a:Sl}(I:Inv X pins v ρ p s)(r:aB ρ h' xs us)(hl:us.length<=sizeLine)(kp: ∀ b u,s.heap.get? b=fI u->h'.get? b=fI u)(ha:s.heap.get? a=ox)(e:h'.get? a=fI { cls:= .type "list",data:= .seq us.toArray n})(o:Out X (RE X pins v ρ s.heap Q) (.ok (.ref p.length) (p++[.lst xs]))) :
  Q (.ref a) { s with heap:=h',toks:=t'}:=by
 have g:Gr ρ s.heap (ρ.add [(a,fI a)]) h':=(Gr.kept kp).more _;have nt:=Fd I ha;have un:Un (X.env.locals::X.fs) [] ρ s.heap (ρ.add [(a,fI a)]) h':=⟨λb o e _ _ _=>kp b o e,λb o e _ _ _=>⟨o.slots,kp b o e⟩,λb o e n _ (t:dF (ρ.add [(a,fI a)]) b)=>(nN (q:=(a,fI a)) rfl t).elim n λz=>(by rw[z.elim id id,ha] at e;cases e),λb o e _=>⟨o,kp b o e⟩,g⟩
 exact o _ _ _ g (I.un (g':=s.gens) (d':=s.drawn) un .nil ((I.sim.keep (Gr.kept kp) λb _=>kp b).D2 rfl nt nt ⟨rfl,us,r.up (Gr.refl.more _),hl,n,e⟩) I.bare) ⟨(a,fI a),I.sim.end,rfl⟩
theorem ja{xs:List PV}{us vs:List RZ}{a:Array RZ}(I:Inv X pins v ρ p s)(r:aB ρ s.heap xs vs)(ha:a=vs.toArray)(hl:xs.length<=sizeLine)(o:Out X (RE X pins v ρ s.heap Q) (.ok (.ref p.length) (p++[.lst xs]))):Q (.ref (s.heap.objs.size+1)) { s with heap:=Xe s.heap us a}:=by
 subst ha;obtain⟨e,he⟩:=sortedAll_at s.heap us vs.toArray;exact tU (t':=s.toks) I r (by rw[<- r.len];exact hl) (λb o e=>sortedAll_old e) (WN _) (by simpa [VJ] using he) o
end
section
variable{X:Cx}{pg:Tb}{k:Nat}
theorem kA{n:Nat}(h:n < 64):n<=sizeLine:=Vl (SK h (by decide))
theorem Co:dz X pg k->OL X (λus=>call (.builtin "sorted") us) dN:=λA {_ _ ρ p s Q _ _} I r o=>by
 have stx: ∀{us:List RZ}{ss:List Str},Out X (RE X _ _ ρ s.heap Q) (if ss.length < 64 then .ok (.ref p.length) (p++[.lst ((eA ss).map PV.str)]) else .no)->ss.length < 64/\ ∀(out:Array RZ)(ss':List Str),Xb out.toList ss'->ss'.Perm ss->QN ss'=true->Q (.ref (s.heap.objs.size+1)) { s with heap:=Xe s.heap us out}:=λ{us ss} o=>by
  obtain⟨hl,o⟩:=Out.ite o;refine⟨hl,λout ss' a1 a2 a3=>?_⟩;rw[<- xD a2 a3] at o;exact ja I (eH.mpr a1) (by simp) (kA (by rw[xn,a2.length_eq];exact hl)) o
 unfold dN at o;split at o
 . split at o
   . rename_i ss es;obtain⟨u,_,rfl,⟨a,us,rfl,rr,_,t⟩,rfl⟩:=r;obtain⟨hl,q⟩:=stx (us:=us) o;rw[gK es] at rr;have sa:=eH.mp rr;exact pC t.tup sa (by rw[sa.length];exact hl) q
   . exact o.elim
 . unfold pO at o;split at o
   . split at o
     . rename_i ys e;split at o
       . rename_i n;obtain⟨u,_,rfl,r,rfl⟩:=r;obtain⟨a,_,us,_,rfl,rr,z,t⟩:=I.sim.lst I.bk (xs:=ys) e r;split at o
         . rename_i ss es;obtain⟨hl,q⟩:=stx (us:=us) o;rw[gK es] at rr;have sa:=eH.mp rr;exact sorted_strs t.isList sa (by rw[sa.length];exact hl) q
         . split at o
           . rename_i ps eps;obtain⟨⟨h5,nd⟩,o⟩:=Out.ite o;rw[FW eps] at rr;have hat:=LK rr;have el:us.length=ps.length:=Vz hat;have fs0:=x6 (xs:=ps.map (·.1))
             rw[xn] at fs0;have fin: ∀{out:List RZ}{ps':List (Str × Int)},aB ρ s.heap (ps'.map eW) out->ps'.Perm ps->(ps'.map (·.1)).Pairwise kE->Q (.ref (s.heap.objs.size+1)) { s with heap:=Xe s.heap us out.toArray}:=λ{out ps'} rv pm pw=>by
              rw[<- Fe nd pm pw] at o;exact ja I rv rfl (kA (by rw[xn,pm.length_eq];exact h5)) o
             refine qE (κ :=BC true) (G:=λp=>2<=us.length/\p=yd (cS (ps.map (·.1))) (UP ps.length)) t.isList (by omega)
              (λh' k h2 Q' hq=>yD (s:={ s with heap:=h'}) (Paired.zB hat λv q x=>x.kept k) h2 hq)
              (λh' k h2 Q' hq=>qm (n:=us.length) (c:=cS (ps.map (·.1))) (λi j C hi hj hij hc=>B8 (s:={ s with heap:=h'}) (Paired.zB hat λv q x=>x.kept k) nd hi hj hij hc) _ (by rw[el];exact(fs0 (by omega) nd).1) (hq _ ⟨h2,by rw[el]⟩))
              (λh2=>?_) λpp hpp g=>?_
             . refine fin rr (Zk _) ?_;cases ps with
               | nil=>exact .nil
               | cons x r=>cases r with
                | nil=>exact Wa _ _
                | cons y r'=>simp at el;omega
             . obtain⟨g2,rfl⟩:=g;have fs:=fs0 (by omega) nd;have lt: ∀ i∈(yd (cS (ps.map (·.1))) (UP ps.length)).toList,i < ps.length:=λi hi=>UO.mp (fs.2.1.mem_iff.mp hi)
               refine fin (rr.picks ("",0) lt) ?_ ?_
               . have:=fs.2.1.map (λi=>ps.getD i ("",0));rw[t8] at this;exact this
               . have e:(((yd (cS (ps.map (·.1))) (UP ps.length)).toList.map λi=>ps.getD i ("",0)).map (·.1))=(yd (cS (ps.map (·.1))) (UP ps.length)).toList.map λi=>(ps.map (·.1)).getD i ("" :Str):=by
                  rw[Tf];refine UE λi hi=>?_;show(ps.getD i ("",0)).1=_;rw[SI,SI,Sq,R6 (lt i hi)];rfl
                 rw[e];exact fs.2.2
           . exact o.elim
       . exact o.elim
     . split at o
       . split at o
         . rename_i kvs en;split at o
           . rename_i ss es;obtain⟨u,_,rfl,r,rfl⟩:=r;obtain⟨a,kus,rfl,_,hm,rk,z,d⟩:=I.bu en r;obtain⟨h64,o⟩:=Out.ite o;have hk:=keys_str (gK es);obtain⟨ep,da⟩:=d.dictAt;have hkk:kus.map (·.1)=ss.map V1:=by rw[<- hk,RK.keys rk]
             have hlen:kus.length=ss.length:=by have:=congrArg FH hkk;rw[xn,xn] at this;exact this
             refine aal (PySem.W.kdl_dict (knd:=bg X.prog X.w) (kvs:=kus) (ep:=ep) hm) (I.ok.hd A.calm) da (by rw[hlen];exact kA h64) λD h' tk ws keep hD hDn hl hP=>?_;have sa:Xb ws ss:=by
              refine Gg (P:=λ_ _=>True) (by rw[hl,hlen]) λj v x e1 e2=>?_;obtain⟨k,y,e3,hk'⟩:=hP j v e1;have e4:(kus.map (·.1))[j]?=fI k:=by rw[Sq,e3];rfl
              rw[hkk,Sq,e2] at e4;have e6:(V1 x:Key)=k:=SY e4;subst e6;rcases bJ (show qi (V1 x) v=true from hk') with⟨i,t,z,_⟩ | ⟨x',t,z,e⟩
              . cases z
              . cases z;exact⟨t,e⟩
             refine nj (n:=0) hD sa (by rw[hl,hlen];exact h64) λout ss' a1 a2 a3=>?_;obtain⟨e,he⟩:=sortedHeap_at (out:=out) hD;have keep': ∀ b o,s.heap.get? b=fI o->(Xn h' D ws out).get? b=fI o:=λb o e=>by
              rw[sortedHeap_old (λz=>by rw[z,hDn] at e;cases e) (Su (keep b o e))];exact keep b o e
             rw[<- xD a2 a3] at o;exact xv (s:=s) (h':=Xn h' D ws out) (us:=out.toList) (t':=tk) (n:=e) I (eH.mpr a1) (by rw[a1.length,a2.length_eq];exact kA h64) keep' hDn (by simpa [VJ] using he) o
           . exact o.elim
         . exact o.elim
       . exact o.elim
   . exact o.elim
theorem IC:dz X pg k->OL X (λus=>call (.builtin "sorted") us) mn:=λA {_ _ ρ p s Q _ _} I r o=>by
 unfold mn at o;split at o
 . rename_i n;split at o
   . rename_i ys e1;split at o
     . rename_i ns e2;obtain⟨hl,o⟩:=Out.ite o;obtain⟨u,_,rfl,r,rfl⟩:=r;obtain⟨a,_,us,_,rfl,rr,z,t⟩:=I.sim.lst I.bk (xs:=ys) e1 r;rw[wO e2] at rr;have hi:=Fw rr;refine sorted_ints t.isList hi (by rw[hi.length];exact hl) λout ns' a1 a2 a3=>?_;cases eq_sortI a2 a3;exact ja I (ints.aB a1) (by simp) (kA (by rw[xn,(sortI_perm ns).length_eq];exact hl)) o
     . exact o.elim
   . exact o.elim
 . exact o.elim
theorem G3(c:Bool):dz X pg k->OL X (λus=>call (.builtin "sorted") us) (lO c):=λA {_ _ ρ p s Q _ _} I r o=>by
 unfold lO at o;split at o
 . rename_i n;split at o
   . rename_i qs e;obtain⟨ys,e1,e2⟩:=Option.bind_eq_some_iff.mp e;obtain⟨⟨h5,nd⟩,o⟩:=Out.ite o;obtain⟨u,_,rfl,r,rfl⟩:=r;obtain⟨a,_,us,_,rfl,rr,z,t⟩:=I.sim.lst I.bk (xs:=ys) e1 r;rw[Ei e2] at rr;have hu:X.A.units+2 < Zn:=by have:=A.room.un;omega
     have hat:=K9 rr;have el:us.length=qs.length:=Vz hat;have fs:=O1 (xs:=qs);have fin: ∀{out:List RZ}{qs':List Qr},aB ρ s.heap (qs'.map (CB c)) out->qs'.Perm qs->qs'.Pairwise ltQ->Q (.ref (s.heap.objs.size+1)) { s with heap:=Xe s.heap us out.toArray}:=λ{out qs'} rv pm pw=>by
      rw[<- xf pm pw] at o;exact ja I rv rfl (kA (by rw[xn,pm.length_eq];exact h5)) o
     refine qE (κ :=BC c) (G:=λp=>2<=us.length/\p=yd (cQ qs) (UP qs.length)) t.isList (by omega) (λh' k h2 Q' hq=>Fo (s:={ s with heap:=h'}) (Paired.zB hat λv q x=>x.kept k) h2 hq)
      (λh' k h2 Q' hq=>qm (n:=us.length) (c:=cQ qs) (λi j C hi hj hij hc=>HX (s:={ s with heap:=h'}) hu (Paired.zB hat λv q x=>x.kept k) nd hi hj hij hc) _ (by rw[el];exact(fs (by omega) nd).1) (hq _ ⟨h2,by rw[el]⟩)) (λh2=>?_) λpp hpp g=>?_
     . refine fin rr (Zk _) ?_;cases qs with
       | nil=>exact .nil
       | cons x r=>cases r with
        | nil=>exact Wa _ _
        | cons y r'=>simp at el;omega
     . obtain⟨g2,rfl⟩:=g;obtain⟨_,f2,f3⟩:=fs (by omega) nd;have lt: ∀ i∈(yd (cQ qs) (UP qs.length)).toList,i < qs.length:=λi hi=>UO.mp (f2.mem_iff.mp hi);refine fin (rr.picks q0 lt) ?_ f3;have:=f2.map (λi=>qs.getD i q0)
       rwa[t8] at this
   . exact o.elim
 . exact o.elim
end
end _P
end
section
open PySem PySem.W PyProof.Rows
namespace _L
open PySem PySem.Spec PyProof.Rows
section
variable{prog:SP}{w:Tp}{A:TP}{E:RZ->R8->Prop}{s:R8}
theorem Bf{z TI TO i1 i2 l1 l2:Sl}{k:Nat}{xs ys:Array RZ}{Q:GU->R8->Prop}(hh:A.handled=ox)(D:Wu z TI TO i1 i2 l1 l2)(Z:xi s.heap z TI TO i1 i2 l1 l2 k)(t1:s.heap.IsTuple l1 xs)(t2:s.heap.IsTuple l2 ys)(he:xs[k]?=ox\/ys[k]?=ox)
  (q: ∀ h' e,(∀ c o,c≠z->c≠TO->c≠i1->c≠i2->s.heap.get? c=fI o->h'.get? c=fI o)->(∃ a b,UZ h' TO a b)->(∃ o,h'.get? e=fI o/\o.cls= .type "StopIteration")->E (.ref e) { s with heap:=h'}):SD (SN prog w) A (Vc.«zip.__next__» ⟨[.ref z],[]⟩) Q E s:=by
 obtain⟨hz,hTI,⟨a,b,hTO⟩,o1,o2⟩:=Z;have ap: ∀(h':SM)(f0:RZ)(e:Sl)(o:Obj),Zx h' z TI TO f0->h'.get? e=fI o->o.cls= .type "StopIteration" ->e≠z:=λh' f0 e o y g c n=>by rw[n,y] at g;cases g;simp at c
 refine mh (m:=YB (.ref z) 2) (S7 hz rfl (x:= .bool false) rfl ?_);refine mh (m:=YB (.ref z) 3) (S7 hz rfl (x:= .ref TI) rfl (mh (T7 hTI rfl ?_)));refine mh (m:=UK (.ref z)) (mh (m:=YB (.ref z) 0) (S7 hz rfl (x:= .none) rfl (Sg (Nk rfl (mh (V6 ?_))))));refine mh (m:=YB (.ref z) 4) (S7 hz rfl (x:= .ref TO) rfl (mh (Uy hz (by simp) λu1 z1 b1=>?_)))
 replace z1:Zx u1 z TI TO .ellipsis:=z1
 refine mh ?_;rw[show(#[TZ i1,TZ i2]:Array RZ).toList.zipIdx=[(TZ i1,0),(TZ i2,1)] from rfl,Ui]
 match hx:xs[k]? with
 | none =>
  refine mh (mh (WL (mh (m:=TS (.ref i1)) (oF hh (o1.at λo e=>b1.extBut _ _ D.i1z e) (t1.at λo e=>b1.extBut _ _ D.l1z e) hx λu2 e b2 g=>?_))))
  obtain⟨oe,g1,g2⟩:=g
  have z2:Zx u2 z TI TO .ellipsis:=b2 _ _ D.i1z.symm z1
  exact Uy z2 (by simp) λu3 _ b3=>q u3 e (λc o n1 _ n3 _ y=>b3.extBut _ _ n1 (b2 _ _ n3 (b1.extBut _ _ n1 y))) ⟨a,b,b3.extBut _ _ D.TOz (b2 _ _ D.TOi1 (b1.extBut _ _ D.TOz hTO))⟩ ⟨oe,b3.extBut _ _ (ap u2 _ e oe z2 g1 g2) g1,g2⟩
 | some x =>
  have hy:ys[k]?=ox:=he.resolve_left (by rw[hx];intro y;cases y)
  refine mh (mh (WL (mh (m:=TS (.ref i1)) (jg (o1.at λo e=>b1.extBut _ _ D.i1z e) (t1.at λo e=>b1.extBut _ _ D.l1z e) hx λu2 p1 b2=>Sg ?_))))
  have T2:UZ u2 TO a b:=b2.extBut _ _ D.TOi1 (b1.extBut _ _ D.TOz hTO)
  refine mh (T7 T2 rfl (mh (WT T2 λu3 T3 b3=>mh (Zy (Sg ?_)))))
  have k3: ∀ c o,c≠z->c≠TO->c≠i1->s.heap.get? c=fI o->u3.get? c=fI o:=λc o n1 n2 n3 e=>b3.extBut _ _ n2 (b2.extBut _ _ n3 (b1.extBut _ _ n1 e))
  dsimp only
  rw[Ui]
  refine mh (mh (WL (mh (m:=TS (.ref i2)) (oF hh (o2.at λo e=>k3 _ o D.i2z D.TOi2.symm D.i12.symm e) (t2.at λo e=>k3 _ o D.l2z D.l2TO D.l2i1 e) hy λu4 e b4 g=>?_))))
  obtain⟨oe,g1,g2⟩:=g
  have z4:Zx u4 z TI TO .ellipsis:=b4 _ _ D.i2z.symm (b3.extBut _ _ D.TOz.symm (b2.extBut _ _ D.i1z.symm z1))
  exact Uy z4 (by simp) λu5 _ b5=>q u5 e (λc o n1 n2 n3 n4 y=>b5.extBut _ _ n1 (b4 _ _ n4 (k3 c o n1 n2 n3 y))) ⟨_,_,b5.extBut _ _ D.TOz (b4 _ _ D.TOi2 T3)⟩ ⟨oe,b5.extBut _ _ (ap u4 _ e oe z4 g1 g2) g1,g2⟩
theorem rV{z TI TO i1 i2 l1 l2:Sl}{k:Nat}{xs ys:Array RZ}{Q:Option RZ->R8->Prop}(hh:A.handled=ox)(D:Wu z TI TO i1 i2 l1 l2)(Z:xi s.heap z TI TO i1 i2 l1 l2 k)(t1:s.heap.IsTuple l1 xs)(t2:s.heap.IsTuple l2 ys)(he:xs[k]?=ox\/ys[k]?=ox)
  (q: ∀ h',(∀ c o,c≠z->c≠TO->c≠i1->c≠i2->s.heap.get? c=fI o->h'.get? c=fI o)->(∃ a b,UZ h' TO a b)->Q ox { s with heap:=h'}):SD (SN prog w) A (X4 (.ref z)) Q E s :=
 have ty:s.TypeIs (.ref z) "zip" :=⟨_,Z.wX,rfl⟩
 mh (Yd (TN (name:=SO "__next__") ty TY (Ua TY ty Vp (Bf (A:=A.in1) hh D Z t1 t2 he λh' e a1 a2 g =>
  let ⟨o,g1,g2⟩:=g;mh (YC (T:= "StopIteration") (b:=true) ⟨o,g1,g2⟩ isSubtype_stop (Sg (q h' a1 a2)))) (Vh (.ref z)))))
end
end _L
namespace _P
open PySem PySem.Spec PyProof.Rows _L
noncomputable def Ps.own(ρ :Ps)(a:Sl):Ps:=⟨ρ.l,a:: ρ.pv⟩
section
variable{X:Cx}{pins:List (Sl × Obj)}{v:ay}{ρ :Ps}{p:PH}{s:R8}{h h':SM}{a:Sl}
theorem Gr.own(k: ∀ b o,h.get? b=fI o->h'.get? b=fI o)(ha:h.get? a=ox)(t:nB h' a):Gr ρ h (ρ.own a) h' :=
 ⟨λ_ _ e=>e,λb o e _ _ n=>⟨λm=>(Sd.mp m).elim (λz=>by rw[z,ha] at e;cases e) n,o.slots,k b o e⟩,λH b m=>(Sd.mp m).elim (λz=>z ▸ t) λm=>let ⟨o,e,c⟩:=H b m;⟨o,k b o e,c⟩,λ_ m=>Sk _ m⟩
theorem Inv.own{t':Nat}(I:Inv X pins v ρ p s)(k: ∀ b o,s.heap.get? b=fI o->h'.get? b=fI o)(ha:s.heap.get? a=ox)(t:nB h' a):Inv X pins v (ρ.own a) p { s with heap:=h',toks:=t'}:=by
 have g:Gr ρ s.heap (ρ.own a) h':= .own k ha t;refine I.un (g':=s.gens) (d':=s.drawn) (ch:=[]) ⟨λb o e _ _ _=>k b o e,λb o e _ _ _=>⟨o.slots,k b o e⟩,λ_ _ _ n _=>n,λb o e _=>⟨o,k b o e⟩,g⟩ .nil ?_ I.bare;exact⟨I.sim.len,I.sim.nd,λi o q e1 e2=>(I.sim.ob i o q e1 e2).wJ g λ_ _=>⟨λ_ z=>k _ _ z,λ_ z=>k _ _ z⟩,g.pv I.sim.pv,λb m=>(Sd.mp m).elim (λz=>by
  cases e:X.base.get? b with
  | none=>rfl
  | some o=>have:=I.bk b o e;rw[z,ha] at this;cases this) (I.sim.Nu b)⟩
theorem Gr.turns{ch:List Sl}(k: ∀ b o,b ∉ ch->h.get? b=fI o->h'.get? b=fI o)(hc: ∀ b∈ch,(b∈ ρ.pv/\nB h' b)\/ ¬ nB h b):Gr ρ h ρ h' :=
 ⟨λ_ _ e=>e,λb o e c d n=>⟨n,o.slots,k b o (λm=>(hc b m).elim (λz=>n z.1) λz=>z ⟨o,e,c,d⟩) e⟩,λH b m=>by
  by_cases hb:b∈ch
  . exact(hc b hb).elim (λz=>z.2) λz=>absurd (H b m) z
  . obtain⟨o,e,c⟩:=H b m;exact⟨o,k b o hb e,c⟩,λ_ m=>m⟩
theorem Inv.turns{ch:List Sl}{t':Nat}(I:Inv X pins v ρ p s)(k: ∀ b o,b ∉ ch->s.heap.get? b=fI o->h'.get? b=fI o)(hc: ∀ b∈ch,(b∈ ρ.pv/\nB h' b)\/ ¬ nB s.heap b)(hf: ∀ b∈ch,jC X pins ρ b):Gr ρ s.heap ρ h'/\Inv X pins v ρ p { s with heap:=h',toks:=t'}:=by
 have g:Gr ρ s.heap ρ h':= .turns k hc;exact⟨g,I.un (g':=s.gens) (d':=s.drawn) (ch:=ch) ⟨λb o e _ _ hx=>k b o hx e,λb o e _ _ hx=>⟨o.slots,k b o hx e⟩,λ_ _ _ n _=>n,λb o e hx=>⟨o,k b o hx e⟩,g⟩ (AJ hf) (I.sim.keep g λb t u z=>k b u (λm=>(hf b m).1 t) z) I.bare⟩
end
theorem IsPair.o{h:SM}{a:Sl}{x y:RZ}(e:UZ h a x y):nB h a:=⟨_,e,rfl,_,_,rfl⟩
theorem iF{h:SM}{i l:Sl}{k:Nat}(e:h.IsTupleIter i l k): ¬ nB h i:=λ⟨o,e1,c,_⟩=>by
 obtain⟨o',e2,c',_⟩:=e;rw[e1] at e2;cases e2;rw[c] at c';simp at c'
theorem z9{h:SM}{z TI TO:Sl}{u:RZ}(e:Zx h z TI TO u): ¬ nB h z:=λ⟨o,e1,c,_⟩=>by
 rw[show h.get? z=_ from e] at e1;cases e1;simp at c
section
variable{P:SP}{w:Tp}{K:Sy}{IT:kC}{ρ0:Ps}{h0:SM}
theorem CW{els:List Tr}{j:Nat}{pos:Pos}{z TI TO i1 i2 a1 a2:Sl}{xs ys:List PV}{us ws:List RZ}(D:Wu z TI TO i1 i2 a1 a2)(r1:aB ρ0 h0 xs us)(n1:a1 ∉ ρ0.pv)(t1:Wl h0 a1 us.toArray)(r2:aB ρ0 h0 ys ws)(n2:a2 ∉ ρ0.pv)(t2:Wl h0 a2 ws.toArray)
  (hI:IT.items=(xs.zip ys).map λp=> .tup [p.1,p.2]) (ho:TO∈ ρ0.pv):Turn P w K (.Tuple els j pos) IT ρ0 h0 [z,TI,TO,i1,i2] z (λi h=>xi h z TI TO i1 i2 a1 a2 i) where
 mem:=by simp
 obj:=λi h Z b hb=>by
  obtain⟨e1,e2,⟨u,v,e3⟩,⟨o4,e4,_,d4⟩,⟨o5,e5,_,d5⟩⟩:=Z;simp only[Sp,or_false,Sd] at hb;rcases hb with rfl | rfl | rfl | rfl | rfl
  . exact⟨_,e1,λv q=>nomatch q⟩
  . exact⟨_,e2,λv q=>nomatch q⟩
  . exact⟨_,e3,λv q=>nomatch q⟩
  . exact⟨_,e4,λv q=>by rw[d4] at q;cases q⟩
  . exact⟨_,e5,λv q=>by rw[d5] at q;cases q⟩
 keep:=λi h h' Z kp=>aaR Z kp
 item:=by
  intro X pins v ρ p s E Q x i hP hw hK hc I g hf Z _ hx hQ;subst hP hw hK;rw[hI,Sq,Ta] at hx;obtain⟨⟨y1,y2⟩,hz,rfl⟩:=hx;obtain⟨zx,zy⟩:=XF.mp hz;obtain⟨ux,eu,rx⟩:=(r1.up g).get zx;obtain⟨uy,ew,ry⟩:=(r2.up g).get zy;refine qp D Z (g.isTup n1 t1).2 (g.isTup n2 t2).2 (by simpa using eu) (by simpa using ew) λh1 f1 f2 f3 f4 f5 f6 f7=>⟨_,rfl,?_⟩
  refine wpAny_letOwnedTupleGo_zip (s:={ s with heap:=h1}) f1 λh2 g1 g2=>?_;have ex1:=g2.extBut;have pz:s.heap.objs.size≠z:=TB (Su Z.wX);have TOp:=g.sub _ ho;have pair:=ex1 _ _ pz f6;obtain⟨g',I2⟩:=I.turns (ch:=[z,TO,i1,i2]) (h':=h2) (t':=s.toks) (λb o nb e=>by
   simp only[Sd,Sp,or_false,not_or] at nb;exact ex1 _ _ nb.1 (f7 b o nb.1 nb.2.1 nb.2.2.1 nb.2.2.2 e)) (λb hb=>by
   simp only[Sd,Sp,or_false] at hb;rcases hb with rfl | rfl | rfl | rfl
   . exact .inr (z9 Z.wX)
   . exact .inl ⟨TOp,IsPair.o (ex1 _ _ D.TOz f3)⟩
   . exact .inr (iF Z.one)
   . exact .inr (iF Z.two)) λb hb=>hf b (by
   simp only[Sd,Sp,or_false] at hb ⊢;rcases hb with rfl | rfl | rfl | rfl<;>simp)
  refine hQ _ _ g' I2 ⟨s.heap.objs.size,[ux,uy],rfl,.cons (rx.up g') (.one (ry.up g')),⟨by show 2<=sizeLine;decide,I.sim.P6 (Si _)⟩,_,pair,rfl,_,rfl,rfl⟩ ?_;obtain⟨o4,e4,c4⟩:=f4;obtain⟨o5,e5,c5⟩:=f5;exact⟨g1,ex1 _ _ D.TIz f2,⟨_,_,ex1 _ _ D.TOz f3⟩,⟨o4,ex1 _ _ D.i1z e4,c4⟩,⟨o5,ex1 _ _ D.i2z e5,c5⟩⟩
 done:=by
  intro X pins v ρ p s E Q i hP hw hK hc I g hf Z _ hi hQ;subst hP hw hK;have l1:=r1.len;have l2:=r2.len;rw[hI,xn,V5] at hi;have TOp:=g.sub _ ho;refine rV (I.ok.hd hc) D Z (g.isTup n1 t1).2 (g.isTup n2 t2).2 ?_ λh1 kp ⟨_,_,TOe⟩=>⟨rfl,?_⟩
  . rcases L8 xs.length ys.length with c | c
    . exact .inl (by rw[Ug];exact Tn (by omega))
    . exact .inr (by rw[Ug];exact Tn (by omega))
  . obtain⟨g',I2⟩:=I.turns (ch:=[z,TO,i1,i2]) (h':=h1) (t':=s.toks) (λb o nb e=>by
     simp only[Sd,Sp,or_false,not_or] at nb;exact kp b o nb.1 nb.2.1 nb.2.2.1 nb.2.2.2 e) (λb hb=>by
     simp only[Sd,Sp,or_false] at hb;rcases hb with rfl | rfl | rfl | rfl
     . exact .inr (z9 Z.wX)
     . exact .inl ⟨TOp,IsPair.o TOe⟩
     . exact .inr (iF Z.one)
     . exact .inr (iF Z.two)) λb hb=>hf b (by
     simp only[Sd,Sp,or_false] at hb ⊢;rcases hb with rfl | rfl | rfl | rfl<;>simp)
    exact hQ _ g' I2
 self:=λA i s Q E Z h=>YE Z.wX h
end
section
variable{X:Cx}{pg:Tb}{k:Nat}{a b e d i o:Tr}{ma mb md mo mi:ME}{mr:MA}{p p2 p3 pos pos' apos cpos tpos:Pos}{els:List Tr}{j:Nat}
theorem M5(hg:Gl X "zip")(ha:JE X pg k a ma)(hb:JE X pg k b mb)(hs1:autoParam (noStar a=true) aG)(hs2:autoParam (noStar b=true) aG):JI X pg k (.Tuple els j tpos) (.Call (.Name "zip" p) [a,b] [] pos) (Ms ma mb):=⟨λ{pins v ρ q s Q} A I o=>by
 refine TU (gO I hg (A.blt _ (by decide +kernel)) boot_zip (Th ?_ (by rw[aL hs1,aL hs2]) (by rw[aL hs2];rfl)));rw[aL hs1,aL hs2];refine TG (ha.h A I (o.go λx _ o _ _ ux g1 I1 r1=>TG (hb.h A I1 (o.go λy q2 o ρ2 s2 uy g2 I2 r2=>Ur ?_))));have r1:=r1.up g2;split at o
 . rename_i xs ys ex ey;obtain⟨a1,us,rfl,d1,z1,t1⟩:=rel.seq ex r1;obtain⟨a2,ws,rfl,d2,z2,t2⟩:=rel.seq ey r2;refine callType_new F.called_zip (by decide) (F.typeCall_zip_2 _ _) (F.newCall_zip_2 _ _) (λobj=>F.args_object_init_3 obj _ _) F.entry_zip_new (uF a1 a2 us.toArray ws.toArray) ⟨t1,t2,?_⟩;obtain⟨Z,zs⟩:=MR s2.heap a1 a2;have lt1:a1 < s2.heap.objs.size:=let ⟨_,e,_⟩:=t1;Su e
   have lt2:a2 < s2.heap.objs.size:=let ⟨_,e,_⟩:=t2;Su e
   refine⟨⟨_,Z.wX,rfl⟩,YE Z.wX ?_⟩;have kp: ∀ c o,s2.heap.get? c=fI o->(Nz s2.heap a1 a2).get? c=fI o:=λc o e=>Sa _ (Sa _ (Sa _ (Sa _ (Sa _ e))));have tO:nB (Nz s2.heap a1 a2) (s2.heap.objs.size+3):=let ⟨_,_,e⟩:=Z.old;IsPair.o e
   have fr:s2.heap.get? (s2.heap.objs.size+3)=ox:=Um (VL _ _);have g3:Gr ρ2 s2.heap (ρ2.own (s2.heap.objs.size+3)) (Nz s2.heap a1 a2):= .own kp fr tO;obtain⟨n1,t1⟩:=g3.isTup z1.2 t1;obtain⟨n2,t2⟩:=g3.isTup z2.2 t2;refine o (ρ2.own (s2.heap.objs.size+3)) _ (s2.heap.objs.size+4) [s2.heap.objs.size+4,s2.heap.objs.size+2,s2.heap.objs.size+3,s2.heap.objs.size,s2.heap.objs.size+1] _ ((g1.trans g2).trans g3) (I2.own (t':=s2.toks) kp fr tO)
    (CW (zipApart_new lt1 lt2) (d1.up g3) n1 t1 (d2.up g3) n2 t2 rfl So) Z λc hc=>?_
   have hle:s2.heap.objs.size<=c:=by
    simp only[Sd,Sp,or_false] at hc;rcases hc with rfl | rfl | rfl | rfl | rfl<;>omega
   exact I2.DS hle (show ¬ dF ρ2 c from I2.sim.fresh hle)
 . exact o.elim⟩
theorem Ap{ρ :Ps}{h:SM}: ∀(n m:Nat)(us:List RZ),us.length=n->(∀(j:Nat) v,us[j]?=fI v-> ∃ t,v= .int (m+j:Nat) t)->aB ρ h ((XO m n).map λi:Nat=>PV.int (i:Int)) us
 | 0,_,us,e,_=>Ue e
 | n+1,m,us,e,h=>by
  cases us with
  | nil=>cases e
  | cons u r =>
   rw[YD,R9]
   refine⟨u,r,rfl,?_,Ap n (m+1) r (Kx e) λj v e=>?_⟩
   . obtain⟨t,rfl⟩:=h 0 u rfl;exact⟨t,rfl⟩
   . obtain⟨t,rfl⟩:=h (j+1) v e;exact⟨t,by congr 2;omega⟩
theorem Ce(hL:Gl X "list")(hR:Gl X "range")(ha:JA X pg k [a] mr)(hs:autoParam (VU [a] X.env=[(false,Wm a X.env)]) aG):JE X pg k (.Call (.Name "list" p) [.Call (.Name "range" p2) [a] [] p3] [] pos) (QX mr):=⟨λ{pins v ρ q s Q} A I o=>by
 have hs2:VU [.Call (.Name "range" p2) [a] [] p3] X.env=[(false,Wm (.Call (.Name "range" p2) [a] [] p3) X.env)]:=rfl;refine TU (gO I hL (A.blt _ (by decide +kernel)) KC (Th ?_ hs2 rfl));rw[hs2];refine TG ?_;refine TU (gO I hR (A.blt _ (by decide +kernel)) boot_range (Th (ha.h A I (o.go λvs q1 o ρ1 s1 us g1 I1 r1=>?_)) hs rfl));split at o
 . rename_i j;obtain⟨hj,o⟩:=Out.ite o;obtain⟨u,_,rfl,⟨t,rfl⟩,rfl⟩:=r1;obtain⟨n,rfl⟩:=Tj hj.1;refine call_range_1 (Ur ?_);have rs:Yu 0 (n:Int) 1=(n:Nat):=by rw[rangeSize_one];split<;>omega
   refine call_list_range A.room.hd (HZ ..) (small_one (by omega) (by omega) (by omega) (by omega)) rs (by omega) λh' tk acc c' kp e it=>?_;have kp0: ∀ b u,s1.heap.get? b=fI u->(s1.heap.push { cls:=VH "range",data:=XM #[ZF 0 s1.toks,ZF (n:Int) t,ZF 1 (s1.toks+1)]}).get? b=fI u:=λb o e=>Sa _ e;have I2:=I1.kept (t':=s1.toks+1+1) kp0;have e0:aJ 0 (Xf (n:Int))=(XO 0 n).map λi:Nat=>PV.int (i:Int):=by
    rw[<- ZA];unfold aJ;rw[SQ];exact UE λi _=>by rw[Vr]
   rw[e0] at o;refine tU (us:=acc.toList) (t':=tk) I2 (Ap n 0 _ (by rw[Tw];exact it.1) λj v e=>?_) (by rw[Tw,it.1];exact Sx (show n<=100000 by omega) (by decide)) kp (Si _) (n:=c') (by simpa using e) (Out.up (r:= .ok _ _) o (g1.trans (.kept kp0)));obtain⟨t,rfl⟩:=it.2 j v (by rw[<- e,WB]);exact⟨t,by congr 1;omega⟩
 . exact o.elim⟩
theorem te{pins:List (Sl × Obj)}{v:ay}{ρ :Ps}{q:PH}{s:R8}{Q:RZ->R8->Prop}{l:Sl}{us ws:List RZ}{ys:List PV}{ss:List Str}{z:Str}(I:Inv X pins v ρ q s)(r:aB ρ s.heap ys us)(t:Wl s.heap l us.toArray)(es:eG ys=fI ss)(rw':aB ρ s.heap [.str z] ws)(ha:z∈ss)(o:Out X (RE X pins v ρ s.heap Q) (.ok (.int (ss.idxOf z:Nat)) q)) :
  SD (SN X.prog X.w) X.A (call (.builtin "tuple.index") (.ref l::ws)) Q X.xe s:=by
 obtain⟨u,_,rfl,⟨t',rfl⟩,rfl⟩:=rw';rw[gK es] at r;have ln:us.length=ss.length:=by rw[<- r.len,xn]
 have sa:=eH.mp r;obtain⟨hj,h1,h0⟩:=places (t:=t') sa ln ha;obtain⟨⟨oc,od,oa,os⟩,e,ec,n,ed⟩:=t;simp only at ec ed;subst ec ed;exact US F.slot_tuple_index ⟨_,e,rfl⟩ F.entry_tuple_index (F.args_tuple_index_2 _ _)
  (BZ l us.toArray n od os (.str z t') (Xc z) (λy hy=>eq_isStrOf z t' sa y (by simpa using hy)) (ss.idxOf z) hj h1 h0) ⟨e,o.pure I ⟨_,rfl⟩⟩
theorem BK(ho:JE X pg k d md)(ha:JA X pg k [e] mr)(hbase:autoParam (X3 d "index" X.env (Wm d X.env)=Wm d X.env) aG)(hline:autoParam ((apos.endLine == cpos.line)=true) aG)(hs:autoParam (noStar e=true) aG) :
  JE X pg k (.Call (.Attribute d "index" apos) [e] [] cpos) (HU md mr):=⟨λ{pins v ρ q s Q} A I o=>by
 refine Wn hbase (by rw[aL hs];rfl) hline rfl (ho.h A I (o.go λx _ o _ s1 u g1 I1 r1=>?_));unfold IF at o;split at o
 . rename_i xs;have rx:=r1;obtain⟨l,us,rfl,rr,z,tn⟩:=r1;obtain⟨ob,e1,e2,n,e3,e4⟩:=id tn;refine⟨"tuple",_,Yh,Yi,Yj,⟨ob,e1,e2⟩,λb e=>by cases e;exact⟨ob,e1,e4⟩,?_⟩;have hA:=ha.h A (pos:=cpos) I1 (o.go λvs _ o ρ2 s2 ws g2 I2 r2=>show SD _ _ (call (.builtin "tuple.index") (.ref l::ws)) Q X.xe s2 from by
    obtain⟨l',us',el,rr',z',tn'⟩:=rx.up g2;cases el;unfold Fq at o;split at o
    . cases ‹_=PV.tup _›;split at o
      . obtain⟨hm,o⟩:=Out.ite o;exact te I2 rr' tn'.tup ‹_› r2 hm (Out.up (r:= .ok _ _) o (g1.trans g2))
      . exact o.elim
    . exact o.elim)
   rw[aL hs] at hA ⊢;exact Vm rfl (VF hA)
 . exact o.elim⟩
theorem A7{x:Str}{v:PV}{p:Pos}(hc:pg.con x=fI v)(hg:Gl X x)(ha:JA X pg k [e] mr)(hd:autoParam ((x == ("__debug__" :Str))=false) cT)(hbase:autoParam (X3 (.Name x p) "index" X.env (Wm (.Name x p) X.env)=Wm (.Name x p) X.env) aG)(hline:autoParam ((apos.endLine == cpos.line)=true) aG)(hs:autoParam (noStar e=true) aG) :
  JE X pg k (.Call (.Attribute (.Name x p) "index" apos) [e] [] cpos) (PT v mr):=⟨λ{pins w ρ q s Q} A I o=>by
 obtain⟨u,e1,c⟩:=A.con x v hc;refine Wn hbase (by rw[aL hs];rfl) hline rfl (mU I hg e1 ?_ hd);unfold PT at o;split at o
 . rename_i ys;obtain⟨l,us,rfl,rr,z,tn⟩:=c.r _ _ I.B3 I.Pd;obtain⟨ob,k1,k2,k3⟩:=c.n l rfl;have k4:=I.B3 l ob k1;refine⟨"tuple",_,Yh,Yi,Yj,⟨ob,k4,k2⟩,λb e=>by cases e;exact⟨ob,k4,k3⟩,?_⟩;have hA:=ha.h A (pos:=cpos) I (o.go λvs _ o ρ2 s2 ws g2 I2 r2=>show SD _ _ (call (.builtin "tuple.index") (.ref l::ws)) Q X.xe s2 from by
    obtain⟨l',us',el,rr',z',tn'⟩:=c.r _ _ I2.B3 I2.Pd;cases el;unfold yi at o;split at o
    . cases ‹_=PV.ktup _›;split at o
      . obtain⟨hm,o⟩:=Out.ite o;exact te I2 rr' tn' ‹_› r2 hm (Out.up (r:= .ok _ _) o g2)
      . exact o.elim
    . exact o.elim)
   rw[aL hs] at hA ⊢;exact Vm rfl (VF hA)
 . exact o.elim⟩
end
section
variable{X:Cx}{pg:Tb}{k:Nat}{a b e d i o:Tr}{ma mb md mo mi:ME}{mr:MA}{p p2 p3 pos pos' apos cpos tpos:Pos}{els:List Tr}{j:Nat}
theorem HI(ho:JE X pg k o mo)(hi:JE X pg k i mi)(he:JE X pg k e ma)(ha:autoParam (∀ ov iv new,augStore i ov iv new=(do LJ [new,ov,iv] (setItem ov iv new);release [new,ov,iv] [];pure .next)) aG):JS X pg k (.AugAssign (.Subscript o i pos') .Add e pos) (Cq mo mi ma):=⟨λ{pins v ρ q s Q} A I o'=>by
 refine wpAny_AugAssign_SubscriptAny (ho.h A I (o'.go λx _ o' _ _ ov g1 I1 r1=>hi.h A I1 (o'.go λy _ o' _ s2 iv g2 I2 r2=>?_))) ha;have r1':=r1.up g2;unfold IJ at o';split at o'
 . rename_i n m _;split at o'
   . rename_i xs en;split at o'
     . rename_i u0 eu;obtain⟨l,us,c,rfl,ea,rr,hz,hob⟩:=I2.lst en r1';obtain⟨w,ew,rw'⟩:=rr.get eu;have r2':=r2;obtain⟨t,rfl⟩:=r2;have hn:=nR;have lt:=(RY.mp ew).1;refine wpAny_getItem_list (YF (n:=c) hob) (Int.natCast_nonneg m) (by show(m:Int) < _;omega) (by simpa using ew) ?_;refine he.h A I2 (Out.go (r:=ma (run pg k) v _) o' λz _ o' _ s3 u g3 I3 r3=>?_);unfold DC at o';split at o'
       . obtain⟨t1,rfl⟩:=rw';obtain⟨t2,rfl⟩:=r3;refine iadd_int ?_;exact Jb A (I3.tok (t':=s3.toks+1)) (r1'.up g3) (r2'.up g3) (show rel _ _ (PV.int (_+_)) (ZF (_+_) _) from⟨_,rfl⟩) (Out.go (r:=fD _ _ _ _) o' λ_ _ o' ρ4 s4 g4 I4=>o' ρ4 s4 (((g1.trans g2).trans g3).trans g4) I4)
       . exact o'.elim
     . exact o'.elim
   . exact o'.elim
 . exact o'.elim⟩
theorem mO{h:SM}{e it:Sl}{i:Int}{old:RZ}(x:YR h e it i old): ¬ nB h e:=λ⟨o,e1,c,_⟩=>by
 rw[show h.get? e=_ from x] at e1;cases e1;simp at c
theorem BR{P:SP}{w:Tp}{K:Sy}{IT:kC}{ρ0:Ps}{h0:SM}{pos:Pos}{e it a:Sl}{xs:List PV}{us:List RZ}(hei:e≠it)(hea:e≠a)(hai:a≠it)(r1:aB ρ0 h0 xs us)(n1:a ∉ ρ0.pv)(t1:Wl h0 a us.toArray)(hI:IT.items=xs.zipIdx.map λq=> .tup [.int (q.2:Int),q.1]) :
  Turn P w K (.Tuple els j pos) IT ρ0 h0 [e,it] e (λi h=>(∃ old,YR h e it i old)/\h.IsTupleIter it a i) where
 mem:=by simp
 obj:=λi h z b hb=>by
  obtain⟨⟨old,e1⟩,⟨o4,e4,_,d4⟩⟩:=z;simp only[Sp,or_false,Sd] at hb;rcases hb with rfl | rfl
  . exact⟨_,e1,λv q=>nomatch q⟩
  . exact⟨_,e4,λv q=>by rw[d4] at q;cases q⟩
 keep:=λi h h' z kp=>by
  obtain⟨⟨old,e1⟩,⟨o4,e4,d4⟩⟩:=z;exact⟨⟨old,kp _ (by simp) _ e1⟩,⟨o4,kp _ (by simp) _ e4,d4⟩⟩
 item:=by
  intro X pins v ρ p s E Q x i hP hw hK hc I g hf z _ hx hQ;subst hP hw hK;rw[hI,Sq,Ta] at hx;obtain⟨⟨y0,y1⟩,ez,rfl⟩:=hx;rw[Zm,Ta] at ez;obtain⟨y,ey,ez⟩:=ez;cases ez;obtain⟨ux,eu,rx⟩:=(r1.up g).get ey;obtain⟨⟨old,e1⟩,hit⟩:=z;have hlt:i < us.toArray.size:=by simpa using(RY.mp eu).1
  refine YG (CP (A:=X.A.in1) (show X.A.in1.handled=ox from I.ok.hd hc) hai us.toArray) e1 ⟨hit,(g.isTup n1 t1).2⟩ hlt hei (by simp[hei,hea]) λy h1 tk f1 f2 f3 f4 f5 f6=>⟨_,rfl,?_⟩
  have hy:y=ux:=by
   have h2:us.toArray[i]?=fI ux:=by simpa using eu
   rw[h2] at f1;cases f1;rfl
  subst hy;refine Xs (s:={ s with heap:=h1,toks:=tk+1}) f2 λh2 g1 g2=>?_;have ex1:=g2.extBut;have elt:e < s.heap.objs.size:=Su e1;have new:h2.get? s.heap.objs.size=fI { cls:= .type "tuple",data:= .seq #[.int i tk,y]}:=ex1 _ _ (TB elt) f4;obtain⟨g',I2⟩:=I.turns (ch:=[e,it]) (h':=h2) (t':=tk+1) (λb o nb q=>by
   simp only[Sd,Sp,or_false,not_or] at nb;exact ex1 _ _ nb.1 (f6 b o nb.1 nb.2 q)) (λb hb=>by
   simp only[Sd,Sp,or_false] at hb;rcases hb with rfl | rfl
   . exact .inr (mO e1)
   . exact .inr (iF hit)) hf
  refine hQ _ _ g' I2 ⟨s.heap.objs.size,[.int i tk,y],rfl,.cons ⟨tk,by simp⟩ (.one (rx.up g')),⟨by show 2<=sizeLine;decide,I.sim.P6 (Si _)⟩,_,new,rfl,_,rfl,rfl⟩ ?_;obtain⟨⟨o4,e4,c4⟩,_⟩:=f3;exact⟨⟨_,by simpa using g1⟩,⟨o4,ex1 _ _ hei.symm e4,c4⟩⟩
 done:=by
  intro X pins v ρ p s E Q i hP hw hK hc I g hf z _ hi hQ;subst hP hw hK;obtain⟨⟨old,e1⟩,hit⟩:=z;have ei:i=us.toArray.size:=by rw[hi,hI,xn,List.length_zipIdx,r1.len,Ss]
  rw[ei] at hit;refine YT (CP (A:=X.A.in1) (show X.A.in1.handled=ox from I.ok.hd hc) hai us.toArray) e1 ⟨hit,(g.isTup n1 t1).2⟩ λh1 kp=>⟨rfl,?_⟩
  obtain⟨g',I2⟩:=I.turns (ch:=[e,it]) (h':=h1) (t':=s.toks) (λb o nb q=>by
   simp only[Sd,Sp,or_false,not_or] at nb;exact kp b o nb.2 q) (λb hb=>by
   simp only[Sd,Sp,or_false] at hb;rcases hb with rfl | rfl
   . exact .inr (mO e1)
   . exact .inr (iF hit)) hf
  exact hQ _ g' I2
 self:=λA i s Q E z h=>by
  obtain⟨⟨old,e1⟩,_⟩:=z;exact XR e1 h
theorem G1(hg:Gl X "enumerate")(ha:JE X pg k a ma)(hs1:autoParam (noStar a=true) aG):JI X pg k (.Tuple els j tpos) (.Call (.Name "enumerate" p) [a] [] pos) (ES ma):=⟨λ{pins v ρ q s Q} A I o=>by
 refine TU (gO I hg (A.blt _ (by decide +kernel)) boot_enumerate (Th ?_ (aL hs1) rfl));rw[aL hs1];refine TG (ha.h A I (o.go λx q2 o ρ2 s2 uy g1 I2 r1=>Ur ?_));split at o
 . rename_i xs ex;obtain⟨a1,us,rfl,d1,z1,t1⟩:=rel.seq ex r1;refine callType_new F.called_enumerate (by decide) (F.typeCall_enumerate_1 _) (F.newCall_enumerate_1 _) (λobj=>F.args_object_init_2 obj _) F.entry_enumerate_new (vG a1 us.toArray) ⟨t1,?_⟩;obtain⟨⟨old,Z⟩,W⟩:=Mb s2.heap a1;have lt1:a1 < s2.heap.objs.size:=let ⟨_,e,_⟩:=t1;Su e
   refine⟨⟨_,Z,rfl⟩,XR Z ?_⟩;have kp: ∀ c o,s2.heap.get? c=fI o->(Nm s2.heap a1).get? c=fI o:=λc o e=>Sa _ (Sa _ e);have g3:Gr ρ2 s2.heap ρ2 (Nm s2.heap a1):= .kept kp;obtain⟨n1,t1⟩:=g3.isTup z1.2 t1;refine o ρ2 _ (s2.heap.objs.size+1) [s2.heap.objs.size+1,s2.heap.objs.size] _ (g1.trans g3) (I2.kept (t':=s2.toks) kp)
    (BR (TB (UN _)) (TB (Uc lt1)) (SW lt1) (d1.up g3) n1 t1 rfl) ⟨⟨old,Z⟩,W⟩ λc hc=>?_
   have hle:s2.heap.objs.size<=c:=by
    simp only[Sd,Sp,or_false] at hc;rcases hc with rfl | rfl<;>omega
   exact I2.DS hle (I2.sim.fresh hle)
 . exact o.elim⟩
end
theorem O8{P:SP}{w:Tp}{k:Key}{u:RZ}{ρ :Ps}{h:SM}(e:(bg P w).is k u=true):rel ρ h (kP k) u:=by
 rcases bJ e with⟨i,t,rfl,rfl⟩ | ⟨x,t,rfl,rfl⟩
 . exact⟨t,rfl⟩
 . exact⟨t,rfl⟩
theorem FJ{P:SP}{w:Tp}{K:Sy}{IT:kC}{ρ0:Ps}{h0:SM}{tg:Tr}{a it:Sl}{kus:List (Key × RZ)}{ep:Nat}(D: ∀ h,K.In h->h.DictAt (bg P w) a kus ep)(hI:IT.items=kus.map λp=>kP p.1) :
  Turn P w K tg IT ρ0 h0 [it] it (λi h=>h.IsKeyIter it a i kus.length ep) where
 mem:=Sf.mpr rfl
 obj:=nu λi h ⟨o,e,c,d⟩=>⟨o,e,λv z=>by rw[d] at z;cases z⟩
 keep:=λi h h' st k=>st.at λo e=>k it (Sf.mpr rfl) o e
 item:=by
  intro X pins v ρ p s E Q x i hP hw hK hc I g hf st _ hx hQ;subst hP hw hK;rw[hI,Sq,Ta] at hx;obtain⟨q,hq,rfl⟩:=hx;refine wpAny_pyNext_dict_item st (D _ I.B3) (k:=q.1) (v:=q.2) hq λkey h' hk st' sb=>?_;obtain⟨o0,e0,c0,d0⟩:=id st;obtain⟨g',I2⟩:=I.turns (ch:=[it]) (h':=h') (t':=s.toks) (λb o hb e=>(sb.2 b λz=>hb (z ▸ Sf.mpr rfl)).trans e) (λb hb=>by
   rw[Sf.mp hb];exact .inr λ⟨o,e,_,_,_,d⟩=>by rw[e0] at e;cases e;rw[d0] at d;cases d) hf
  obtain⟨o,e,c,d⟩:=id st';exact⟨key,rfl,xB (s:={ s with heap:=h'}) e c d (by decide) (hQ _ _ g' I2 (O8 hk) st')⟩
 done:=by
  intro X pins v ρ p s E Q i hP hw hK hc I g hf st _ hi hQ;subst hP hw hK;rw[hI,xn] at hi;obtain⟨o0,e0,c0,d0⟩:=id st;refine wpAny_pyNext_dict_end (I.ok.hd hc) st (D _ I.B3) (VQ.mpr (YL hi.symm)) λh' eb=>⟨rfl,?_⟩
  obtain⟨g',I2⟩:=I.turns (ch:=[it]) (h':=h') (t':=s.toks) (λb o hb e=>eb b o (λz=>hb (z ▸ Sf.mpr rfl)) e) (λb hb=>by
   rw[Sf.mp hb];exact .inr λ⟨o,e,_,_,_,d⟩=>by rw[e0] at e;cases e;rw[d0] at d;cases d) hf
  exact hQ _ g' I2
 self:=λ_ _ _ _ _ st h=>wpAny_pyIter_keyiter st h
section
variable{X:Cx}{pg:Tb}{k:Nat}{tg:Tr}{x:Str}{p pos:Pos}{kvs:List (Key × PV)}
theorem Hd(hd:pg.xG x=fI kvs)(hg:Gl X x)(hdb:autoParam ((x == ("__debug__" :Str))=false) cT):JI X pg k tg (.Name x p) (Fm kvs):=⟨λ{pins v ρ q s Q} A I o=>by
 obtain⟨a,e1,⟨nm,ob,hl⟩,kus,hz,e3⟩:=A.xG x kvs hd;refine mU I hg e1 ?_ hdb;obtain⟨d,rk⟩:=e3 s.heap I.B3;obtain⟨ep,da⟩:=d.dictAt;refine wpAny_pyIter_dict nm da ?_;have D: ∀ h,X.K.In h->h.DictAt (bg X.prog X.w) a kus ep:=λh Fn=>by
  obtain⟨o1,es1,f1,r1,d1,_⟩:=da;obtain⟨o2,es2,ep2,f2,r2,d2,z⟩:=(e3 h Fn).1;rw[I.B3 a ob hl] at f1;cases f1;rw[Fn a ob hl] at f2;cases f2;rw[d1] at d2;cases d2;exact⟨_,_,Fn a ob hl,r2,d1,z⟩
 exact o ρ _ s.heap.objs.size [s.heap.objs.size] _ (Gr.kept cA) (I.kept (t':=s.toks) cA) (FJ D (by
  show kvs.map (λp=>kP p.1)=kus.map λp=>kP p.1;have:=congrArg (List.map kP) (RK.keys (rk ρ I.Pd));rw[Tf,Tf] at this;exact this.symm)) ⟨_,Sv _ rfl,rfl,rfl⟩ I.FC⟩
variable{body:List XX}{h₀ :ExceptHandler}{hs:List ExceptHandler}{mb:MS}
theorem Out.Ny{α :Type}{R: α ->PH->Prop}{Y:Cx}: ∀{r:RV α},Out X R (Ny r)->Out Y R r
 | .ok _ _,o=>o
 | .ex _ _ _,o=>o.elim
 | .no,o=>o
abbrev Cx.Q9(X:Cx):Cx:=X.vz λ_ _=>False
theorem dz.vz(A:dz X pg k)(E:RZ->R8->Prop):dz (X.vz E) pg k:=⟨A.room,A.calm,A.own,A.defs,A.blt,A.con,A.xG,A.ct,A.mt⟩
theorem Inv.um{E:RZ->R8->Prop}{pins:List (Sl × Obj)}{v:ay}{ρ :Ps}{q:PH}{s:R8}(I:Inv (X.vz E) pins v ρ q s):Inv X pins v ρ q s:=I.vz X.xe
theorem GI(hb:BS X.Q9 pg k body mb):JS X pg k (.Try body (h₀ ::hs) [] [] pos) (Fi mb):=⟨λ{pins v ρ q s Q} A I o=>by
 refine wpAny_Try_except (Ub (hb.h (Q:=λf s1=>Q f s1) (A.vz _) (I.vz _) ((Out.Ny (Y:=X.Q9) o).mp λf p r=>?_)) (λf s1 q=>?_) λ_ _ z=>z.elim)
 . cases f with
   | nx e=>exact fun ρ' s' g J=>r ρ' s' g J.um
   | bk e=>exact fun ρ' s' g J=>r ρ' s' g J.um
   | ct e=>exact fun ρ' s' g J=>r ρ' s' g J.um
   | rt w=>exact λe ρ' s' u g J=>r e ρ' s' u g J.um
 . cases f with
   | next=>exact Vv q
   | _=>exact q⟩
end
section
variable{X:Cx}{pins:List (Sl × Obj)}{v:ay}{ρ :Ps}{q:PH}{s:R8}{E:RZ->R8->Prop}{els:List Tr}{j n i:Nat}{pos:Pos}{e it a:Sl}{t:Option Sl}{xs:List PV}{old:RZ}
theorem EJ{x:PV}{Q:RZ->R8->Prop}(hei:e≠it)(hea:e≠a)(hai:a≠it)(hc:X.calm=true)(I:Inv X pins v ρ q s)(hl:br q n=fI xs)(ha: ρ.l[n]?=fI (a,t))(hf: ∀ b∈[e,it],jC X pins ρ b)(e1:YR s.heap e it i old)(hit:s.heap.IsListIter it a i)(hx:xs[i]?=fI x)
  (hQ: ∀ u s2,Gr ρ s.heap ρ s2.heap->Inv X pins v ρ q s2->rel ρ s2.heap (.tup [.int (i:Int),x]) u->(∃ old,YR s2.heap e it ((i+1:Nat):Int) old)->s2.heap.IsListIter it a (i+1)->Q u s2) :
  SD (SN X.prog X.w) X.A (X4 (.ref e)) (λr s1=> ∃ u,r=fI u/\SD (SN X.prog X.w) X.A (WX (.Tuple els j pos) (.ref e) u) (λ_ s2=>Q u s2) E s1) E s:=by
 obtain⟨b,_,us,e0,eb,rr,hz,pl⟩:=I.sim.lst I.bk hl ⟨(a,t),ha,rfl⟩;cases eb;obtain⟨ux,eu,rx⟩:=rr.get hx;have hlt:i < us.toArray.size:=by simpa using(RY.mp eu).1
 refine YG (Draws.list (A:=X.A.in1) (show X.A.in1.handled=ox from I.ok.hd hc) it a hai us.toArray) e1 ⟨hit,pl.isList⟩ hlt hei (by simp[hei,hea]) λy h1 tk f1 f2 f3 f4 f5 f6=>⟨_,rfl,?_⟩
 have hy:y=ux:=by
  have h2:us.toArray[i]?=fI ux:=by simpa using eu
  rw[h2] at f1;cases f1;rfl
 subst hy;refine Xs (s:={ s with heap:=h1,toks:=tk+1}) f2 λh2 g1 g2=>?_;have ex1:=g2.extBut;have elt:e < s.heap.objs.size:=Su e1;have new:h2.get? s.heap.objs.size=fI { cls:= .type "tuple",data:= .seq #[.int i tk,y]}:=ex1 _ _ (TB elt) f4;obtain⟨g',I2⟩:=I.turns (ch:=[e,it]) (h':=h2) (t':=tk+1) (λb o nb q=>by
  simp only[Sd,Sp,or_false,not_or] at nb;exact ex1 _ _ nb.1 (f6 b o nb.1 nb.2 q)) (λb hb=>by
  simp only[Sd,Sp,or_false] at hb;rcases hb with rfl | rfl
  . exact .inr (mO e1)
  . obtain⟨o4,e4,c4,d4⟩:=hit;exact .inr λ⟨o,e,_,_,_,d⟩=>by rw[e4] at e;cases e;rw[d4] at d;cases d) hf
 exact hQ _ _ g' I2 ⟨s.heap.objs.size,[.int i tk,y],rfl,.cons ⟨tk,by simp⟩ (.one (rx.up g')),⟨by show 2<=sizeLine;decide,I.sim.P6 (Si _)⟩,_,new,rfl,_,rfl,rfl⟩ ⟨_,by simpa using g1⟩ (f3.1.at λo q=>ex1 _ _ hei.symm q)
theorem E5{Q:R8->Prop}(hei:e≠it)(hai:a≠it)(hc:X.calm=true)(I:Inv X pins v ρ q s)(hl:br q n=fI xs)(ha: ρ.l[n]?=fI (a,t))(hf: ∀ b∈[e,it],jC X pins ρ b)(e1:YR s.heap e it i old)(hit:s.heap.IsListIter it a i)(hi:i=xs.length)
  (hQ: ∀ s2,Gr ρ s.heap ρ s2.heap->Inv X pins v ρ q s2->Q s2):SD (SN X.prog X.w) X.A (X4 (.ref e)) (λr s1=>r=ox/\Q s1) E s:=by
 obtain⟨b,_,us,e0,eb,rr,hz,pl⟩:=I.sim.lst I.bk hl ⟨(a,t),ha,rfl⟩;cases eb;have ei:i=us.toArray.size:=by rw[hi,rr.len,Ss]
 have e2:=e1;have hit2:=hit;rw[ei] at hit2 e2;refine YT (Draws.list (A:=X.A.in1) (show X.A.in1.handled=ox from I.ok.hd hc) it a hai us.toArray) e2 ⟨hit2,pl.isList⟩ λh1 kp=>⟨rfl,?_⟩
 obtain⟨g',I2⟩:=I.turns (ch:=[e,it]) (h':=h1) (t':=s.toks) (λb o nb q=>by
  simp only[Sd,Sp,or_false,not_or] at nb;exact kp b o nb.2 q) (λb hb=>by
  simp only[Sd,Sp,or_false] at hb;rcases hb with rfl | rfl
  . exact .inr (mO e1)
  . obtain⟨o4,e4,c4,d4⟩:=hit;exact .inr λ⟨o,e,_,_,_,d⟩=>by rw[e4] at e;cases e;rw[d4] at d;cases d) hf
 exact hQ _ g' I2
end
section
variable{X:Cx}{pg:Tb}{k:Nat}{a:Tr}{ma:ME}{p pos fpos tpos:Pos}{els:List Tr}{j:Nat}{g:MG}{ms:MS}{body:List XX}
theorem Ie(hn:Gl X "enumerate")(ha:JE X pg k a ma)(hg:JG X pg k (.Tuple els j tpos) g)(hb:BS X pg k body ms)(hp:autoParam (PassesOwn (SN X.prog X.w) X.A X.env X.xe) D3)(hs1:autoParam (noStar a=true) aG)(hs:autoParam (∀ x,Us (.Call (.Name "enumerate" p) [a] [] pos) X.env x=pure x) aG):JS X pg k (.For (.Tuple els j tpos) (.Call (.Name "enumerate" p) [a] [] pos) body [] fpos) (Dx ma g ms):=⟨λ{pins v ρ q s Q} A I o=>by
 refine wpAny_For (TU (gO I hn (A.blt _ (by decide +kernel)) boot_enumerate (Th ?_ (aL hs1) rfl))) hs;rw[aL hs1];refine TG (ha.h A I (o.go λx q2 o ρ1 s1 u g1 I1 r1=>Ur ?_));cases x with
 | ref n =>
  rw[O7] at o
  cases en:br q2 n with
  | none=>rw[en] at o;exact o.elim
  | some xs =>
   rw[en,Qy] at o
   obtain⟨a0,t0,us,ea,rfl,rr,hz,pl⟩:=I1.sim.lst I1.bk en r1
   refine call_enumerate_list pl.isList λh' Z W hz' kp=>?_
   have lt1:a0 < s1.heap.objs.size:=let ⟨_,_,e,_⟩:=pl;Su e
   refine XR Z ?_
   have g2:Gr ρ1 s1.heap ρ1 h':= .kept kp
   have I2:=I1.kept (t':=s1.toks) kp
   have f2: ∀ b∈[s1.heap.objs.size+1,s1.heap.objs.size],jC X pins ρ1 b:=λc hc=>by
    have hle:s1.heap.objs.size<=c:=by
     simp only[Sd,Sp,or_false] at hc;rcases hc with rfl | rfl<;>omega
    exact I1.DS hle (I1.sim.fresh hle)
   have hei:s1.heap.objs.size+1≠s1.heap.objs.size:=TB (UN _)
   have hea:s1.heap.objs.size+1≠a0:=TB (Uc lt1)
   have hai:a0≠s1.heap.objs.size:=SW lt1
   have o:=Out.O4 o (g1.trans g2)
   generalize hs3:({ s1 with heap:=h'}:R8)=s3 at *
   have ob2: ∀{i:Nat}{h:SM},(∃ old,YR h (s1.heap.objs.size+1) s1.heap.objs.size i old)->h.IsListIter s1.heap.objs.size a0 i-> ∀ b∈[s1.heap.objs.size+1,s1.heap.objs.size],∃ o,h.get? b=fI o/\ ∀ v,o.data≠ .cell v:=λz1 z2 b hb=>by
    obtain⟨old,z1⟩:=z1;obtain⟨o4,z2,_,z3⟩:=z2;simp only[Sd,Sp,or_false] at hb;rcases hb with rfl | rfl
    . exact⟨_,z1,λv q=>nomatch q⟩
    . exact⟨_,z2,λv q=>by rw[z3] at q;cases q⟩
   have stat: ∀{ρ':Ps},(∀ b∈[s1.heap.objs.size+1,s1.heap.objs.size],¬ dF ρ' b)-> ∀ b∈[s1.heap.objs.size+1,s1.heap.objs.size],jC X pins ρ' b:=λhn b hb=>⟨hn b hb,(f2 b hb).2⟩
   have Z:YR s3.heap (s1.heap.objs.size+1) s1.heap.objs.size ((0:Nat):Int) .none:=by first | exact Z | (rw[<- hs3];exact Z)
   have W:s3.heap.IsListIter s1.heap.objs.size a0 0:=by first | exact W | (rw[<- hs3];exact W)
   have I2:Inv X pins v ρ1 q2 s3:=by first | exact I2 | (rw[<- hs3];exact I2)
   have g2:Gr ρ1 s1.heap ρ1 s3.heap:=by first | exact g2 | (rw [<- hs3];exact g2)
   have o:Out X (RS X pins ρ1 s3.heap Q) (fG n xs (aW g ms (run pg k)) (Bp xs) v q2):=by first | exact o | (rw [<- hs3];exact o)
   refine ZM (λm s'=> ∃ (i:Nat) (v':ay) (ρ':Ps) (q':PH),Gr ρ1 s3.heap ρ' s'.heap∧Inv X pins v' ρ' q' s'∧(∃ old,YR s'.heap (s1.heap.objs.size+1) s1.heap.objs.size i old)∧s'.heap.IsListIter s1.heap.objs.size a0 i∧(∀ b∈[s1.heap.objs.size+1,s1.heap.objs.size],¬ dF ρ' b)∧i<=xs.length∧m=xs.length - i∧Out X (RS X pins ρ1 s3.heap Q) (fG n xs (aW g ms (run pg k)) ((Bp xs).drop i) v' q')) ?_ xs.length
    ⟨0,v, ρ1,q2,.refl,I2,⟨_,Z⟩,W,λb hb=>(f2 b hb).1,SX _,rfl,o⟩
   rintro m s4 ⟨i,v3, ρ3,q3,g3,I3,⟨old,lB⟩,li3,fr3,hi,hm,o3⟩
   have ea3:=g3.pre _ _ ea
   rcases TJ i xs.length with hlt | hge
   . have hx:xs[i]?=fI xs[i]:=R6 hlt;have hd:(Bp xs).drop i= .tup [.int (i:Int),xs[i]]::(Bp xs).drop (i+1):=by
      rw[UY (by rw[vi];exact hlt)];congr 1;have e5:=Km (xs:=xs) (i:=i);rw[hx,R6 (by rw[vi];exact hlt)] at e5;exact SY e5
     rw[hd,fG] at o3;obtain⟨hf,o3⟩:=Out.ite o3
     refine' TV hp (He (EJ hei hea hai A.calm I3 hf ea3 (stat fr3) lB li3 hx ?k) ?gg)
     case gg=>intro r s5 z;obtain⟨u,hr,h4⟩:=z;subst hr;exact TV hp h4
     intro u s5 g5 I5 r5 st5 li5;have I5':=I5.pinned (stat fr3) (ob2 st5 li5);unfold aW at o3;rw[bind_assoc] at o3;refine TV hp (hg.h A I5' r5 (o3.go λe6 q6 o6 ρ6 s6 g6 I6=>TV hp (hb.h A I6 (o6.go λf q7 o7=>?_))));have G:=(g3.trans g5).trans g6;have again: ∀{v7 ρ7 s7},Gr ρ6 s6.heap ρ7 s7.heap->Inv X (pins++oE [s1.heap.objs.size+1,s1.heap.objs.size] s5.heap) v7 ρ7 q7 s7->Out X (RS X pins ρ1 s3.heap Q) (fG n xs (aW g ms (run pg k)) ((Bp xs).drop (i+1)) v7 q7)-> ∃ m',m' < m/\ ∃(i:Nat)(v':ay)(ρ':Ps)(q':PH),Gr ρ1 s3.heap ρ' s7.heap/\Inv X pins v' ρ' q' s7/\(∃ old,YR s7.heap (s1.heap.objs.size+1) s1.heap.objs.size i old)/\s7.heap.IsListIter s1.heap.objs.size a0 i/\(∀ b∈[s1.heap.objs.size+1,s1.heap.objs.size],¬ dF ρ' b)/\i<=xs.length/\m'=xs.length - i/\Out X (RS X pins ρ1 s3.heap Q) (fG n xs (aW g ms (run pg k)) ((Bp xs).drop i) v' q'):=λ{v7 ρ7 s7} g7 I7 o7=>by
      have pn: ∀ b∈[s1.heap.objs.size+1,s1.heap.objs.size],∀ o,s5.heap.get? b=fI o->s7.heap.get? b=fI o∧ ¬ dF ρ7 b:=λb hb o e=>let ⟨x,y,_⟩:=I7.pin (b,o) (To _ (To _ (ly hb e)));⟨x,y⟩
      have o5:=ob2 st5 li5;obtain ⟨old',e5⟩:=st5;exact ⟨xs.length - (i+1),by omega,i+1,v7, ρ7,q7,G.trans g7,I7.iI,⟨old',(pn _ (by simp) _ e5).1⟩,li5.at λo e=>(pn _ (by simp) o e).1,λb hb=>let ⟨o,e,_⟩:=o5 b hb;(pn b hb o e).2,hlt,rfl,o7⟩
     cases f with
     | nx e=>exact fun ρ7 s7 g7 I7=>again g7 I7 o7
     | ct e=>exact fun ρ7 s7 g7 I7=>again g7 I7 o7
     | bk e=>exact fun ρ7 s7 g7 I7=>o7 ρ7 s7 (G.trans g7) I7.iI
     | rt w=>exact λe ρ7 s7 u g7 I7 r=>o7 e ρ7 s7 u (G.trans g7) I7.iI r
   . have e:i=xs.length:=V3 hi hge;rw[UG (by rw[vi];exact hge),fG] at o3;obtain⟨hf,o3⟩:=Out.ite o3;exact TV hp (He (E5 (Q:=λs=>Q .next s) hei hai A.calm I3 hf ea3 (stat fr3) lB li3 e λs5 g5 I5=>o3 ρ3 s5 (g3.trans g5) I5) λr s5 z=>by obtain⟨hr,h4⟩:=z;subst hr;exact Vv h4)
 | _=>exact o.elim⟩
end
theorem aB.of_get{ρ :Ps}{h:SM}: ∀{xs:List PV}{us:List RZ},xs.length=us.length->(∀(j:Nat) x u,xs[j]?=fI x->us[j]?=fI u->rel ρ h x u)->aB ρ h xs us:=λ{xs}=>by
 induction xs with
 | nil=>intro us e _;exact Ue e.symm
 | cons x t ih =>
  intro us e f
  cases us with
  | nil=>cases e
  | cons u r=>exact⟨u,r,rfl,f 0 x u rfl rfl,ih (Kx e) λj y v e1 e2=>f (j+1) y v e1 e2⟩
def QJ(hb h:SM)(ex:List Sl)(us ws ia:List RZ):Prop:= ∀(j:Nat)(u:RZ),ia[j]?=fI u-> ∃(p:Sl)(x y:RZ),u= .ref p/\hb.get? p=ox/\p ∉ ex/\us[j]?=fI x/\ws[j]?=fI y/\UZ h p x y
section
variable{prog:SP}{w:Tp}{hb:SM}{z TI TO i1 i2 l1 l2 S:Sl}{us ws:List RZ}{res:RZ}{R:vD->R8->Prop}{A:TP}{s0:R8}
theorem Br(hh:A.in1.handled=ox)(D:Wu z TI TO i1 i2 l1 l2)(nS:S≠z/\S≠TI/\S≠TO/\S≠i1/\S≠i2/\S≠l1/\S≠l2)(hz:us.length<=sizeLine)(fr: ∀ b∈[z,TO,i1,i2,S],hb.get? b=ox)
  (hR: ∀(h':SM)(ia:Array RZ)(c:Nat),(∀ b o,hb.get? b=fI o->h'.get? b=fI o)->h'.get? S=fI { cls:= .type "list",dict:=ox,data:= .seq ia c,slots:= #[]}->ia.size=min us.length ws.length->QJ hb h' [z,TO,i1,i2,S] us ws ia.toList->R (.ok (.ret res)) { s0 with heap:=h'}) :
  ∀(n k:Nat)(h:SM)(ia:Array RZ)(c:Nat),us.length - k=n->ia.size=k->k<=us.length->k<=ws.length->(∀ b o,hb.get? b=fI o->h.get? b=fI o)->TO < h.objs.size->pq h z TI TO i1 i2 l1 l2 k us.toArray ws.toArray ->
   h.get? S=fI { cls:= .type "list",dict:=ox,data:= .seq ia c,slots:= #[]}->QJ hb h [z,TO,i1,i2,S] us ws ia.toList ->
   WJ (SN prog w) A (.builtin "list.extend.loop" ⟨[.ref S,.ref z,res],[]⟩) R { s0 with heap:=h}:=by
 have end_: ∀{k:Nat}{h:SM}{ia:Array RZ}{c:Nat},ia.size=k->k=min us.length ws.length->(∀ b o,hb.get? b=fI o->h.get? b=fI o)->pq h z TI TO i1 i2 l1 l2 k us.toArray ws.toArray ->
   h.get? S=fI { cls:= .type "list",dict:=ox,data:= .seq ia c,slots:= #[]}->QJ hb h [z,TO,i1,i2,S] us ws ia.toList->(us.toArray[k]?=ox\/ws.toArray[k]?=ox) ->
   WJ (SN prog w) A (.builtin "list.extend.loop" ⟨[.ref S,.ref z,res],[]⟩) R { s0 with heap:=h}:=λ{k h ia c} hi hk K Z hS P he=>by
  refine Vw F.entry_extend_loop (IS ?_);refine mh (DD hh D Z he λh1 kp=>Sg ?_);refine hR h1 ia c (λb o e=>?_) (kp S _ nS.1 nS.2.2.1 nS.2.2.2.1 nS.2.2.2.2.1 hS) (hi.trans hk) λj u e=>?_
  . have ne: ∀ c∈[z,TO,i1,i2,S],b≠c:=λc m z=>(by rw[z,fr c m] at e;cases e)
    exact kp b o (ne _ (by simp)) (ne _ (by simp)) (ne _ (by simp)) (ne _ (by simp)) (K b o e)
  . obtain⟨p,x,y,e1,e2,e3,e4,e5,e6⟩:=P j u e;have e3':=e3;simp only[Sd,Sp,or_false,not_or] at e3';exact⟨p,x,y,e1,e2,e3,e4,e5,kp p _ e3'.1 e3'.2.1 e3'.2.2.1 e3'.2.2.2.1 e6⟩
 intro n
 induction n with
 | zero =>
  intro k h ia c hn hi hl hl2 K hTO Z hS P
  have:k=us.length:=by omega
  exact end_ hi (by omega) K Z hS P (.inl (by simp;omega))
 | succ n ih =>
  intro k h ia c hn hi hl hl2 K hTO Z hS P
  rcases TJ k ws.length with hw | hw
  . have hu:k < us.length:=by omega
    refine Vw F.entry_extend_loop (IS ?_);refine mh (Bh (s:={ s0 with heap:=h}) D Z (x:=us[k]) (y:=ws[k]) (by simp[hu]) (by simp[hw]) λh1 Z1 P1 kp=>?_);have hS1:=kp S _ nS.1 nS.2.2.1 nS.2.2.2.1 nS.2.2.2.2.1 hS;have lS:S < h.objs.size:=Su hS;have fre: ∀{b:Sl}{o:Obj},h.get? b=fI o->h.objs.size≠b:=λe=>TB (Su e);have pn:h.objs.size ∉ [z,TO,i1,i2,S]:=λm=>by
     rcases(by simpa using m:h.objs.size=z\/h.objs.size=TO\/h.objs.size=i1\/h.objs.size=i2\/h.objs.size=S) with e | e | e | e | e
     . obtain⟨o,e',_⟩:=pq.ty (s:={ s0 with heap:=h}) Z;exact fre e' e
     . exact absurd hTO (by rw[e];exact TF _)
     . obtain⟨o,e',_⟩:=Z.one;exact fre e' e
     . obtain⟨o,e',_⟩:=Z.two;exact fre e' e
     . exact fre hS e
    have pb:hb.get? h.objs.size=ox:=by
     cases e:hb.get? h.objs.size with
     | none=>rfl
     | some o=>exact absurd (Su (K _ o e)) (TF _)
    have pS:h.objs.size≠S:=fre hS;show SD _ A.in1 (updateSeq S (·.push (.ref h.objs.size)) >>= _) _ _ _
    refine mh ?_;have oth: ∀ b o,b≠S->h1.get? b=fI o->(h1.update S (Tu (·.push (.ref h.objs.size)))).get? b=fI o:=λb o hb e=>(S9 _ _ (VC hb)).trans e
    have hS2:(h1.update S (Tu (·.push (.ref h.objs.size)))).get? S=fI _:=TH _ hS1 rfl
    refine W4 hS1 rfl (Sg ⟨X7 F.plain_extend_loop _,?_⟩) (by rw[hi];omega) (by show(ia.push _).size<=sizeLine+1;rw[Y5,hi];omega);refine ih (k+1) _ (ia.push (.ref h.objs.size)) _ (by omega) (by rw[Y5,hi]) (by omega) hw (λb o e=>?_) ?_ (Z1.kept nS oth λT o e=>?_) hS2 λj u e=>?_
    . have ne: ∀ c∈[z,TO,i1,i2,S],b≠c:=λc m z=>(by rw[z,fr c m] at e;cases e)
      exact oth b o (ne _ (by simp)) (kp b o (ne _ (by simp)) (ne _ (by simp)) (ne _ (by simp)) (ne _ (by simp)) (K b o e))
    . rw[WH];exact U2 hTO (Su P1)
    . by_cases e':T=S
      . subst e';exact⟨_,hS2⟩
      . exact⟨_,oth T o e' e⟩
    . rw[zH] at e;rcases fA e with⟨hj,e⟩ | ⟨hj,rfl⟩
      . obtain⟨p,x,y,e1,e2,e3,e4,e5,e6⟩:=P j u e;have e3':=e3;simp only[Sd,Sp,or_false,not_or] at e3';exact⟨p,x,y,e1,e2,e3,e4,e5,oth p _ e3'.2.2.2.2 (kp p _ e3'.1 e3'.2.1 e3'.2.2.1 e3'.2.2.2.1 e6)⟩
      . rw[Tw,hi] at hj;subst hj;exact⟨h.objs.size,_,_,rfl,pb,pn,R6 hu,R6 hw,oth _ _ pS P1⟩
  . exact end_ hi (by omega) K Z hS P (.inr (by simp;omega))
end
section
variable{X:Cx}{pg:Tb}{k:Nat}{a b:Tr}{ma mb:ME}{p p2 pos pos2:Pos}
theorem FF(hl:Gl X "list")(hg:Gl X "zip")(ha:JE X pg k a ma)(hb:JE X pg k b mb)(hs1:autoParam (noStar a=true) aG)(hs2:autoParam (noStar b=true) aG):JE X pg k (.Call (.Name "list" p) [.Call (.Name "zip" p2) [a,b] [] pos2] [] pos) (ao Nt ma mb):=⟨λ{pins v ρ q s Q} A I o=>by
 refine TU (gO I hl (A.blt _ (by decide +kernel)) KC (Th ?_ rfl rfl));show SD _ _ (spliced ((false,Wm (.Call (.Name "zip" p2) [a,b] [] pos2) X.env)::Ez pos (VU [] X.env))) _ _ s;refine TG ?_;refine TU (gO I hg (A.blt _ (by decide +kernel)) boot_zip (Th ?_ (by rw[aL hs1,aL hs2]) (by rw[aL hs2];rfl)));rw[aL hs1,aL hs2];refine TG (ha.h A I (o.go λx _ o _ _ ux g1 I1 r1=>TG (hb.h A I1 (o.go λy q2 o ρ2 s1 uy g2 I2 r2=>Ur ?_))));have r1:=r1.up g2;unfold Nt at o;split at o
 . split at o
   . rename_i xs ys en em;obtain⟨a1,us,m1,rfl,_,d1,z1,t1⟩:=I2.lst en r1;obtain⟨a2,ws,m2,rfl,_,d2,z2,t2⟩:=I2.lst em r2;have lt1:a1 < s1.heap.objs.size:=Su t1;have lt2:a2 < s1.heap.objs.size:=Su t2;refine call_zip_2 (YF (n:=m1) t1) (YF (n:=m2) t2) λh' Z1 Z2 Z3 Z4 Z5 sz kp=>Ur ?_;have D:=zipApart_new lt1 lt2;have Z:pq h' _ _ _ _ _ a1 a2 0 us.toArray ws.toArray:=⟨.inl ⟨_,_,Z1,Z3⟩,Z2,Z4,Z5,⟨_,kp _ _ t1,rfl,_,rfl⟩,⟨_,kp _ _ t2,rfl,_,rfl⟩⟩
     obtain⟨S,eS⟩: ∃ S,S=h'.objs.size:=⟨_,rfl⟩
     have far: ∀{a:Sl}{o:Obj},h'.get? a=fI o->S≠a:=λy=>by rw[eS];exact TB (Su y)
     have nS:S≠s1.heap.objs.size+4/\S≠s1.heap.objs.size+2/\S≠s1.heap.objs.size+3/\S≠s1.heap.objs.size/\S≠s1.heap.objs.size+1/\S≠a1/\S≠a2 :=
      ⟨far Z1,far Z.its,far Z3,let ⟨_,y,_⟩:=Z.one;far y,let ⟨_,y,_⟩:=Z.two;far y,let ⟨_,y,_⟩:=Z.l1;far y,let ⟨_,y,_⟩:=Z.l2;far y⟩
     have Sn:s1.heap.get? S=ox:=by
      cases e:s1.heap.get? S with
      | none=>rfl
      | some o=>exact absurd rfl (far (kp S o e))
     have e0:(h'.push { cls:= .type "list",data:= .seq #[]}).get? S=fI { cls:= .type "list",data:= .seq #[]}:=by rw[eS];exact Sv _ rfl
     have old: ∀ b o,h'.get? b=fI o->(h'.push { cls:= .type "list",data:= .seq #[]}).get? b=fI o:=λb o y=>Sa _ y;refine Zr (Q₁ :=λv u=>v= .ref S/\u={ s1 with heap:=h'.push { cls:= .type "list",data:= .seq #[]}}) F.called_list (F.typeCall_list_1 _) F.entry_list_init (code_list_new _ ⟨by rw[eS],rfl⟩) ?_;rintro _ _ ⟨rfl,rfl⟩;refine⟨⟨_,e0,rfl⟩,F.args_list_init_2 _ _,zq (s:={ s1 with heap:=h'.push { cls:= .type "list",data:= .seq #[]}}) e0 λh1 c1 k1 e1=>Bv (s:={ s1 with heap:=h1}) (A:=X.A.in1) nS.1 (k1 _ _ nS.1.symm (old _ _ Z1)) e1 λh2 c2 k2 e2=>?_⟩;have k': ∀ b o,h'.get? b=fI o->h2.get? b=fI o:=λb o y=>k2 b o (far y).symm (k1 b o (far y).symm (old b o y));refine Br (A:=X.A.in1) (S:=S) (hb:=s1.heap) (s0:=s1) (I2.ok.hd A.calm) D nS z1 (λb m=>?_) ?_ us.length 0 h2 _ _ rfl rfl (SX _) (SX _) (λb o e=>k' b o (kp b o e)) ?_ (Z.kept (S:=S) nS (λb o _ y=>k' b o y) λT o y=>⟨o,k' T o y⟩) e2 (λj u e=>by cases e)
     . rcases(by simpa using m:b=s1.heap.objs.size+4\/b=s1.heap.objs.size+3\/b=s1.heap.objs.size\/b=s1.heap.objs.size+1\/b=S) with e | e | e | e | e
       . exact Um (e ▸ VL _ _)
       . exact Um (e ▸ VL _ _)
       . exact Um (YL e.symm)
       . exact Um (e ▸ VL _ _)
       . rw[e];exact Sn
     . intro h3 ia c K eS3 hi P;have g3:Gr ρ2 s1.heap ρ2 h3:= .kept K;have e3:ia.toList.length=min us.length ws.length:=Tw.trans hi;have len:(yO xs ys).length=ia.toList.length:=by unfold yO;rw[xn,V5,d1.len,d2.len,e3]
       refine⟨rfl,xv (t':=s1.toks) (us:=ia.toList) (n:=c) I2 (aB.of_get len λj x u e1 e2=>?_) (by rw[e3];exact Sx (Nat.min_le_left _ _) z1) K Sn (by simpa using eS3) (Out.up (r:= .ok _ _) o (g1.trans g2))⟩;unfold yO at e1;rw[Sq,Ta] at e1;obtain⟨⟨y1,y2⟩,hz,rfl⟩:=e1;obtain⟨zx,zy⟩:=XF.mp hz;obtain⟨ux,f1,f2⟩:=d1.get zx;obtain⟨uy,f3,f4⟩:=d2.get zy;obtain⟨pa,x',y',rfl,q1,_,q3,q4,q5⟩:=P j u e2;rw[f1] at q3;cases q3;rw[f3] at q4;cases q4;exact⟨pa,[ux,uy],rfl,.cons (f2.up g3) (.one (f4.up g3)),⟨by show 2<=sizeLine;decide,I2.sim.Rl q1⟩,_,q5,rfl,_,rfl,rfl⟩
     . exact U2 (Su Z3) (by rw[<- eS];exact Su e2)
   . exact o.elim
 . exact o.elim⟩
end
section
variable{P:SP}{w:Tp}{K:Sy}{mg:Str->Option RZ}{pg:Tb}
theorem aU.on{f:String}{ps:List Str}{n:Nat}{b:MS}{st:XX}{N:List Str}(a:At K mg (SO f) st)(S:vk N ps (bI st))(hl:N.length=ps.length+n)(hb:Args (SO f) (SO f) st ps)
  (h:N.Nodup-> ∀(base:SM)(fa:Sl)(cdv:RZ)(A:TP)(outer:List Env)(s:R8)(ρ :Ps)(R:RZ->R8->Prop)(k:Nat),BS (wC P w K mg base N (SO f) (bI st) fa cdv A outer s ρ R) pg k (fT st) b):aU P w K mg pg f ⟨ps,n,b⟩ st N :=
 ⟨a,hb,λbase=>⟨S,hl,h S.nd base⟩⟩
end
theorem Em{P:SP}{w:Tp}{K:Sy}{mg:Str->Option RZ}{x:Str}{a:Sl}{ls:List (Str × Tok × RZ)}{kvs:List (Key × PV)}{ep:Nat}(hm:mg x=fI (.ref a))(hl:K.lookup a=fI { cls:= .type "dict",data:= .dict (ls.map (MY w)).toArray ep})(ha:(a == U9)=false)(hn:(ls.map λp=>(V1 p.1:Key)).Nodup)
  (h:UX (λ(p:Key × PV) (l:Str × Tok × RZ)=>p.1= .inr l.1/\DV K p.2 l.2.2) kvs ls) (hz:ls.length<=sizeLine): ∃ a,mg x=fI (.ref a)/\KD P w K a kvs:=by
 refine⟨a,hm,⟨ha,_,hl⟩,ls.map λp=>((V1 p.1:Key),p.2.2),by rw[xn];exact hz,λhp Fn=>⟨⟨_,_,ep,Fn a _ hl,⟨rfl,rfl,rfl⟩,rfl,?_,?_,by rw[Tf];exact hn⟩,fun ρ pv=>RQ h ρ hp Fn pv⟩⟩
 . intro e he;have he':e∈ls.map (MY w):=List.mem_toArray.mp he;obtain⟨p,_,rfl⟩:=SS.mp he';exact⟨.inr p.1,nZ p.1 p.2.1,rfl⟩
 . clear hl hn h hz
   show Pairs (bg P w) (ls.map (MY w)) _
   induction ls with
   | nil=>exact .nil
   | cons p r ih=>exact .cons (nZ p.1 p.2.1) rfl ih
end _P
end
section
open PySem PySem.W PyProof.Rows
set_option maxHeartbeats 5000000
namespace _K
open PySem _L _P PyProof.Rows
noncomputable def top i:=PySem.Challenge.pw_leastrecord_k31_whole_pieces.main.body.getD i (.Pass ⟨0,0,0,0⟩)
noncomputable def fz:List (Key × PV):=[(.inr "let",(.ktup [(.str "pocket"),(.str "sum")])),(.inr "leap",(.ktup [(.str "target"),(.str "sum")])),(.inr "get",(.ktup [(.str "pocket"),(.str "box")])),(.inr "put",(.ktup [(.str "box"),(.str "sum")])),(.inr "take",(.ktup [(.str "lock")])),(.inr "free",(.ktup [(.str "lock")])),(.inr "send",(.ktup [(.str "lane"),(.str "sum")])),(.inr "fetch",(.ktup [(.str "pocket"),(.str "lane")])),(.inr "say",(.ktup [(.str "door"),(.str "sum")])),(.inr "clock",(.ktup [(.str "pocket")])),(.inr "lot",(.ktup [(.str "pocket"),(.str "chances")])),(.inr "hear",(.ktup [(.str "pocket"),(.str "door")]))]
noncomputable def cF:List (Key × PV):=[(.inr "box",(.int 2)),(.inr "lock",(.int 3)),(.inr "lane",(.int 4)),(.inr "door",(.int 5))]
noncomputable def gy:List (Key × PV):=[(.inr "get",(.str "box")),(.inr "put",(.str "box")),(.inr "take",(.str "lock")),(.inr "free",(.str "lock")),(.inr "send",(.str "lane")),(.inr "fetch",(.str "lane")),(.inr "say",(.str "door"))]
noncomputable def rE :=
  (aA (wK (eB sC (ae (aa 0) (ae (eC (.ty "int")) aj))) (Hr (eB sC (ae (aa 0) (ae (eC (.ty "bool")) aj))))))
noncomputable def jc:Df:=⟨["thing"],0,rE⟩
noncomputable def mZ :=
  (aA (wK (ai "is_whole" (a1 (aa 0))) (uE NP NP (aa 1) (aa 0) (aa 2))))
noncomputable def fW:Df:=⟨["thing", "least", "most"],0,mZ⟩
noncomputable def qr :=
  (aA (ai "is_between" (a3 (aa 0) (eI 0) (eI 999))))
noncomputable def iS:Df:=⟨["thing"],0,qr⟩
noncomputable def kL :=
  (aA (wK (eB sC (ae (aa 0) (ae (eC (.ty "tuple")) aj))) (ao eE (eB bG (a1 (aa 0))) (aa 1))))
noncomputable def eR:Df:=⟨["thing", "many"],0,kL⟩
noncomputable def mX :=
  (ag (ak (eX 0 0) (gN 2))
  (ag (bS (mQ (aa 2) (eS "num")) (aA (eX 0 1)) cD)
  (ag (bS (mQ (aa 2) (eS "of")) (aA (AV (eB wQ (a1 (aa 1))) (eX 0 1) (eI 0))) cD)
  (ag (ak (ai "worth" (a2 (eX 0 1) (aa 1))) (gN 3))
  (ag (bS (mQ (aa 2) (eS "not")) (aA (vK (mQ (aa 3) (eI 0)) (eI 1) (eI 0))) cD)
  (aA (ai "joined_worth" (ae (aa 2) (ae (aa 3) (ae (ai "worth" (a2 (eX 0 2) (aa 1))) aj))))))))))
noncomputable def i7:Df:=⟨["tree", "pockets"],2,mX⟩
noncomputable def jG :=
  (ag (bS (mQ (aa 0) (eS "add")) (aA (ao oJ (ao aV (aa 1) (aa 2)) (eI 1000))) cD)
  (ag (bS (mQ (aa 0) (eS "sub")) (aA (ao oJ (ao sP (aa 1) (aa 2)) (eI 1000))) cD)
  (ag (bS (mQ (aa 0) (eS "mul")) (aA (ao oJ (ao dH (aa 1) (aa 2)) (eI 1000))) cD)
  (ag (bS (mQ (aa 0) (eS "less")) (aA (vK (aF (ao AQ (aa 1) (aa 2))) (eI 1) (eI 0))) cD)
  (aA (vK (aF (ao eE (aa 1) (aa 2))) (eI 1) (eI 0)))))))
noncomputable def dZ:Df:=⟨["word", "one", "other"],0,jG⟩
noncomputable def qI :=
  (ag (ak (ao aE (aa 0) (PT (.ktup [(.str "box"),(.str "lock"),(.str "lane"),(.str "door"),(.str "hand")]) (a1 (aa 1)))) (gN 2))
  (ag (bS (Ii (mQ (aa 1) (eS "box")) (mQ (aa 1) (eS "hand"))) (aA (hW 1 (iC (aa 2)) (gN 3) aK (eX 3 0))) cD)
  (aA (eB kS (a1 (aa 2))))))
noncomputable def ju:Df:=⟨["program", "sort"],1,qI⟩
noncomputable def jM :=
  (ag (ak (ai "names_of" (a2 (aa 0) (aa 1))) (gN 3))
  (aA (vK (aF (ao jE (aa 2) (aa 3))) (eM i8 bD (aa 3) (a1 (aa 2))) (eC .non))))
noncomputable def fE:Df:=⟨["program", "sort", "name"],1,jM⟩
noncomputable def tq :=
  (aA (ao aE (ao aE (eX 0 4) (aa 1)) (eI 1)))
noncomputable def kh:Df:=⟨["program", "hand"],0,tq⟩
noncomputable def mV :=
  (aA (ai "rested" (ae (aa 0) (ae (aa 1) (ae (aw (a3 (eI 0) (aw aj) (aw aj))) aj)))))
noncomputable def fU:Df:=⟨["program", "hand"],0,mV⟩
noncomputable def wo :=
  (ag (ak (ai "rows_of" (a2 (aa 0) (aa 1))) (gN 3))
  (ag (ak (aa 2) (gN 4))
  (ag (jv (cY (a1 (eI 200))) (gN 5) (ag (bS (aF (ai "is_rested" (a2 (aa 3) (aa 4)))) (aA (aa 4)) cD)
  (ak (ai "behind_own_row" (ae (ao aE (aa 3) (eX 4 0)) (a1 (aa 4)))) (gN 4))))
  (ag (bS (aF (ai "is_rested" (a2 (aa 3) (aa 4)))) (aA (aa 4)) cD)
  (aA (aw (ae (eB bG (a1 (aa 3))) (a2 (eX 4 1) (eX 4 2)))))))))
noncomputable def mR:Df:=⟨["program", "hand", "seat"],3,wo⟩
noncomputable def j9 :=
  (aA (Pz (ao eE (eX 1 0) (eB bG (a1 (aa 0)))) (Hr (ai "is_own_row" (ae (ao aE (aa 0) (eX 1 0)) (a1 (eX 1 2)))))))
noncomputable def fq:Df:=⟨["rows", "seat"],0,j9⟩
noncomputable def mJ :=
  (ag (bS (mQ (eX 0 0) (eS "take")) (aA (ao jE (eX 0 1) (aa 1))) cD)
  (ag (bS (mQ (eX 0 0) (eS "free")) (aA (ao lu (eX 0 1) (aa 1))) cD)
  (aA (Pz (ao eE (eX 0 0) (eS "let")) (ao eE (eX 0 0) (eS "leap"))))))
noncomputable def fV:Df:=⟨["row", "held"],0,mJ⟩
noncomputable def cX :=
  (ag (ak (ao aV (eX 1 0) (eI 1)) (gN 2))
  (ag (bS (mQ (eX 0 0) (eS "let")) (aA (aw (ae (aa 2) (ae (ai "laid" (ae (eX 1 1) (ae (eX 0 1) (ae (ai "worth" (a2 (eX 0 2) (eX 1 1))) aj)))) (a1 (eX 1 2)))))) cD)
  (ag (bS (iq (mQ (eX 0 0) (eS "leap")) (aF (ao kR (ai "worth" (a2 (eX 0 2) (eX 1 1))) (eI 0)))) (aA (aw (a3 (eX 0 1) (eX 1 1) (eX 1 2)))) cD)
  (aA (aw (a3 (aa 2) (eX 1 1) (eX 1 2)))))))
noncomputable def bU:Df:=⟨["row", "seat"],1,cX⟩
noncomputable def yS :=
  (ag (ak (hW 1 (iC (aa 0)) (gN 4) (aF (ao kR (eX 4 0) (aa 1))) (aa 4)) (gN 3))
  (ag (bS (aF (ao kR (aa 2) (eI 0))) (cf (eM aS bD (aa 3) (ae (aw (a2 (aa 1) (aa 2))) aj))) cD)
  (aA (eB aQ (ae (eB dN (a1 (aa 3))) aj)))))
noncomputable def rS:Df:=⟨["pockets", "name", "value"],1,yS⟩
noncomputable def lP :=
  (ag (ak (ai "rows_of" (a2 (aa 0) (aa 1))) (gN 3))
  (ag (bS (aF (ao eE (eX 2 0) (eB bG (a1 (aa 3))))) (aA (eC .non)) cD)
  (ag (ak (ao aE (aa 3) (eX 2 0)) (gN 4))
  (ag (ak (eS "") (gN 5))
  (ag (ak (eC .non) (gN 6))
  (ag (jv (Ms (tW fz (eX 4 0)) (t9 (aa 4) (cL (eI 1)) fR)) (gT 2 (ax (gN 7) (ax (gN 8) bN))) (bS (mQ (aa 7) (eS "sum")) (ak (ai "worth" (a2 (aa 8) (eX 2 1))) (gN 6)) (bS (mQ (aa 7) (eS "chances")) (ak (aa 8) (gN 6)) (bS (aF (ao kR (aa 7) (eS "pocket"))) (ak (aa 8) (gN 5)) cD))))
  (aA (aw (a3 (eX 4 0) (aa 5) (aa 6))))))))))
noncomputable def gH:Df:=⟨["program", "hand", "seat"],6,lP⟩
noncomputable def dh :=
  (ag (ak (ao aE (ai "rows_of" (a2 (aa 0) (aa 1))) (eX 2 0)) (gN 4))
  (ag (ak (eX 2 1) (gN 5))
  (ag (ak (eX 2 2) (gN 6))
  (ag (bS (aF (ao jE (eX 4 0) (eC (.ktup [(.str "get"),(.str "fetch"),(.str "clock"),(.str "lot"),(.str "hear")])))) (ak (ai "laid" (a3 (aa 5) (eX 4 1) (aa 3))) (gN 5)) (bS (mQ (eX 4 0) (eS "take")) (ak (eB aQ (ae (eB dN (ae (ao aV (aa 6) (aw (a1 (eX 4 1)))) aj)) aj)) (gN 6)) (bS (mQ (eX 4 0) (eS "free")) (ak (eB aQ (ae (hW 1 (iC (aa 6)) (gN 7) (aF (ao kR (aa 7) (eX 4 1))) (aa 7)) aj)) (gN 6)) cD)))
  (aA (ai "rested" (ae (aa 0) (ae (aa 1) (ae (aw (ae (ao aV (eX 2 0) (eI 1)) (a2 (aa 5) (aa 6)))) aj)))))))))
noncomputable def cq:Df:=⟨["program", "hand", "seat", "value"],3,dh⟩
noncomputable def mE :=
  (aA (wK (ai "is_value" (a1 (aa 1))) (Pz (ao kR (eX 0 0) (eS "lot")) (ao AQ (aa 1) (eX 0 2)))))
noncomputable def gz:Df:=⟨["touch", "value"],0,mE⟩
noncomputable def kM :=
  (ag (ak (ai "hands_of" (a1 (aa 0))) (gN 1))
  (aA (aw (ae (eB aQ (ae (hW 1 (iC (aa 1)) (gN 2) aK (eI 0)) aj)) (ae (eB aQ (ae (hW 1 (iC (aa 1)) (gN 2) aK (ai "first_seat" (a2 (aa 0) (aa 2)))) aj)) (ae (eB aQ (ae (hW 1 (iC (eX 0 0)) (gN 2) aK (aw (a2 (eX 2 1) (eC .non)))) aj)) (ae (eB aQ (ae (hW 1 (iC (eX 0 1)) (gN 2) aK (aw (a2 (eC .non) (eC .non)))) aj)) (ae (eB aQ (ae (hW 1 (iC (eX 0 2)) (gN 2) aK (aw (a3 (eI 0) (eI 0) (aw aj)))) aj)) (ae (eB aQ (ae (hW 1 (iC (eX 0 3)) (gN 2) aK (eI 0)) aj)) aj)))))))))
noncomputable def eZ:Df:=⟨["program"],1,kM⟩
noncomputable def l7 :=
  (aA (QX (ae (eB bG (a1 (eX 0 4))) aj)))
noncomputable def gJ:Df:=⟨["program"],0,l7⟩
noncomputable def qk :=
  (aA (ao aE (ao aE (aa 1) (tW cF (aa 2))) (ai "number_of" (a3 (aa 0) (aa 2) (aa 3)))))
noncomputable def iY:Df:=⟨["program", "stand", "sort", "name"],0,qk⟩
noncomputable def eP :=
  (ag (ak (ai "touch_of" (ae (aa 0) (ae (aa 2) (ae (ao aE (eX 1 1) (aa 2)) aj)))) (gN 3))
  (ag (bS (aF (Az (gX false) (aa 3))) (aA (eS "end")) cD)
  (ag (bS (mQ (eX 3 0) (eS "take")) (ag (ak (ao aE (ai "state_of" (ae (aa 0) (a3 (aa 1) (eS "lock") (eX 3 1)))) (eI 0)) (gN 4))
  (aA (vK (aF (Az (gX false) (aa 4))) (eC .non) (aw (a3 (eS "lock") (eX 3 1) (aa 4)))))) cD)
  (ag (bS (iq (mQ (eX 3 0) (eS "fetch")) (aF (ao eE (ao aE (ai "state_of" (ae (aa 0) (a3 (aa 1) (eS "lane") (eX 3 1)))) (eI 2)) (aw aj)))) (aA (aw (a2 (eS "letter") (eX 3 1)))) cD)
  (aA (eC .non))))))
noncomputable def cW:Df:=⟨["program", "stand", "hand"],2,eP⟩
noncomputable def y8 :=
  (ag (ak (ai "due_touch" (ae (aa 0) (a3 (aa 1) (aa 2) (aa 3)))) (gN 4))
  (ag (ak (eX 4 0) (gN 5))
  (ag (ak (eX 4 1) (gN 6))
  (ag (bS (aF (ao jE (aa 5) (eC (.ktup [(.str "clock"),(.str "lot"),(.str "hear")])))) (aA (aw (ae (ai "with_hand_on" (ae (aa 0) (a3 (aa 1) (aa 2) (aa 3)))) (ae (aw (ae (aa 5) (a3 (aa 6) (aa 3) (eC .non)))) aj)))) cD)
  (ag (ak (tW gy (aa 5)) (gN 7))
  (ag (ak (ai "meeting" (ae (aa 4) (ae (aw (ae (aa 2) (ae (ao aE (eX 1 0) (aa 2)) aj))) (ae (ai "state_of" (ae (aa 0) (a3 (aa 1) (aa 7) (aa 6)))) aj)))) (gN 8))
  (ag (ak (ai "with_state" (ae (aa 0) (ae (aa 1) (a3 (aa 7) (aa 6) (eX 8 2))))) (gN 9))
  (aA (aw (ae (ai "with_hand_on" (ae (aa 0) (a3 (aa 9) (aa 2) (eX 8 0)))) (ae (aw (ae (aa 5) (a3 (aa 6) (eX 8 0) (eX 8 1)))) aj)))))))))))
noncomputable def qc:Df:=⟨["program", "stand", "hand", "gift"],6,y8⟩
noncomputable def oS :=
  (ag (bS (uW (aF (ai "is_between" (ae (aa 2) (ae (eI 0) (ae (ao sP (eB bG (a1 (eX 0 4))) (eI 1)) aj)))))) kb cD)
  (ag (ak (ai "wait_of" (a3 (aa 0) (aa 1) (aa 2))) (gN 4))
  (ag (bS (mQ (aa 4) (eS "end")) kb cD)
  (ag (bS (aF (Az (gX true) (aa 4))) kb cD)
  (ag (ak (ai "touch_of" (ae (aa 0) (ae (aa 2) (ae (ao aE (eX 1 1) (aa 2)) aj)))) (gN 5))
  (ag (bS (uW (aF (ai "takes_gift" (a2 (aa 5) (aa 3))))) kb cD)
  (aA (aa 5))))))))
noncomputable def hZ:Df:=⟨["program", "stand", "hand", "gift"],2,oS⟩
noncomputable def je :=
  (aA (vK (aF (ao jE (eX 0 0) (eC (.ktup [(.str "clock"),(.str "lot"),(.str "hear")])))) (ai "may_come" (a2 (aa 0) (aa 1))) (Az (gX false) (aa 1))))
noncomputable def dQ:Df:=⟨["touch", "gift"],0,je⟩
noncomputable def dG :=
  (ag (ak (eX 0 0) (gN 3))
  (ag (ak (eX 0 2) (gN 4))
  (ag (bS (mQ (aa 3) (eS "get")) (aA (aw (a3 (eX 2 0) (eX 2 1) (aa 2)))) cD)
  (ag (bS (mQ (aa 3) (eS "put")) (aA (aw (ae (aa 4) (ae (eX 2 1) (ae (aw (a2 (aa 4) (aa 1))) aj))))) cD)
  (ag (bS (mQ (aa 3) (eS "take")) (aA (aw (ae (eC .non) (ae (eX 2 1) (ae (aw (a2 (eX 1 0) (eX 2 1))) aj))))) cD)
  (ag (bS (mQ (aa 3) (eS "free")) (aA (aw (ae (eC .non) (ae (eC .non) (ae (aw (a2 (eC .non) (aa 1))) aj))))) cD)
  (ag (bS (mQ (aa 3) (eS "send")) (aA (aw (ae (aa 4) (ae (eX 2 0) (ae (aw (ae (ao aV (eX 2 0) (eI 1)) (ae (eX 2 1) (ae (ao aV (eX 2 2) (aw (a1 (aa 4)))) aj)))) aj))))) cD)
  (ag (bS (mQ (aa 3) (eS "fetch")) (aA (aw (ae (ao aE (eX 2 2) (eI 0)) (ae (eX 2 1) (ae (aw (ae (eX 2 0) (ae (ao aV (eX 2 1) (eI 1)) (ae (t9 (eX 2 2) (cL (eI 1)) fR) aj)))) aj))))) cD)
  (aA (aw (ae (aa 4) (ae (aa 2) (ae (ao aV (aa 2) (eI 1)) aj)))))))))))))
noncomputable def cG:Df:=⟨["touch", "event", "state"],2,dG⟩
noncomputable def jH :=
  (ag (ak (ai "seat_behind" (ae (aa 0) (ae (aa 2) (ae (ao aE (eX 1 1) (aa 2)) (a1 (aa 3)))))) (gN 4))
  (ag (ak (ai "replaced" (ae (aa 1) (ae (eI 0) (ae (ai "replaced" (ae (eX 1 0) (ae (aa 2) (ae (ao aV (ao aE (eX 1 0) (aa 2)) (eI 1)) aj)))) aj)))) (gN 5))
  (aA (ai "replaced" (ae (aa 5) (ae (eI 1) (ae (ai "replaced" (a3 (eX 1 1) (aa 2) (aa 4))) aj)))))))
noncomputable def dX:Df:=⟨["program", "stand", "hand", "value"],2,jH⟩
noncomputable def m7 :=
  (ag (ak (tW cF (aa 2)) (gN 5))
  (aA (ai "replaced" (ae (aa 1) (ae (aa 5) (ae (ai "replaced" (ae (ao aE (aa 1) (aa 5)) (ae (ai "number_of" (a3 (aa 0) (aa 2) (aa 3))) (a1 (aa 4))))) aj))))))
noncomputable def fZ:Df:=⟨["program", "stand", "sort", "name", "state"],1,m7⟩
noncomputable def ri :=
  (aA (ao aV (ao aV (t9 (aa 0) fR (cL (aa 1))) (aw (a1 (aa 2)))) (t9 (aa 0) (cL (ao aV (aa 1) (eI 1))) fR)))
noncomputable def iW:Df:=⟨["parts", "place", "part"],0,ri⟩
noncomputable def vY :=
  (ag (bS (Ii (uW (aF (eB sC (ae (aa 2) (ae (eC (.ty "tuple")) aj))))) (aF (ao NA (eB bG (a1 (aa 2))) (eI 60)))) kb cD)
  (ag (ak (aa 1) (gN 3))
  (ag (ak (bA aj) (gN 4))
  (ag (jv (ES (aa 2)) (gT 2 (ax (gN 5) (ax (gN 6) bN))) (ag (bS (uW (aF (ai "is_tuple_of" (a2 (aa 6) (eI 2))))) kb cD)
  (ag (ak (ai "stepped" (ae (aa 0) (a3 (aa 3) (aa 5) (aa 6)))) (gN 7))
  (ag (ak (eX 7 0) (gN 3))
  (cf (eM aS bD (aa 4) (ae (aw (a2 (eX 6 0) (eX 7 1))) aj)))))))
  (aA (aw (ae (aa 3) (ae (eB aQ (a1 (aa 4))) aj))))))))
noncomputable def m8:Df:=⟨["program", "stand", "run"],5,vY⟩
noncomputable def s9 :=
  (Fi (aA (ai "gone" (ae (aa 0) (a3 (aa 1) (eX 3 0) (eX 3 1))))))
noncomputable def kq:Df:=⟨["program", "stand", "place", "step"],1,s9⟩
noncomputable def oQ :=
  (ag (ak (ao aE (ai "walked" (a3 (aa 0) (aa 1) (aa 2))) (eI 1)) (gN 3))
  (aA (eB aQ (ae (hW 1 (iC (ai "hands_of" (a1 (aa 0)))) (gN 4) aK (ai "looks_of" (a2 (aa 3) (aa 4)))) aj))))
noncomputable def hV:Df:=⟨["program", "stand", "run"],1,oQ⟩
noncomputable def rM :=
  (aA (eB aQ (ae (hW 2 (iC (aa 0)) (gT 2 (ax (gN 2) (ax (gN 3) bN))) (aF (ao eE (aa 2) (aa 1))) (aa 3)) aj)))
noncomputable def i6:Df:=⟨["touches", "hand"],0,rM⟩
noncomputable def oq :=
  (ag (ak (ai "touches_of" (a3 (aa 0) (aa 1) (aa 2))) (gN 4))
  (ag (bS (aF (eB Ff (ae (hW 1 (Fm cF) (gN 5) aK (Az (gX false) (ai "number_of" (a3 (aa 0) (aa 5) (aa 3))))) aj))) (aA (bA aj)) cD)
  (aA (hW 1 (iC (aa 4)) (gN 5) (aF (ao eE (ao aE (eX 5 1) (eI 1)) (aa 3))) (aa 5)))))
noncomputable def iD:Df:=⟨["program", "stand", "run", "name"],1,oq⟩
noncomputable def jo :=
  (aA (ai "with_events" (ae (aa 1) (ae (ao aE (ai "walked" (a3 (aa 0) (aa 1) (aa 2))) (eI 1)) aj))))
noncomputable def d6:Df:=⟨["program", "stand", "run"],0,jo⟩
noncomputable def kU :=
  (ag (ak (ai "events_by" (ae (aa 0) (ae (hW 2 (iC (aa 1)) (gT 2 (ax (gN 3) (ax (gN 4) bN))) aK (aa 3)) aj))) (gN 2))
  (aA (ao Nt (aa 2) (hW 2 (iC (aa 1)) (gT 2 (ax (gN 3) (ax (gN 4) bN))) aK (aa 4)))))
noncomputable def eY:Df:=⟨["stand", "touches"],1,kU⟩
noncomputable def oY :=
  (ag (ak (eB kS (a1 (eX 0 0))) (gN 2))
  (ag (ak (bA aj) (gN 3))
  (ag (jv (iC (aa 1)) (gN 4) (ag (cf (eM aS bD (aa 3) (ae (aw (ae (aa 4) (ae (ao aE (aa 2) (aa 4)) aj))) aj)))
  (Cq (aa 2) (aa 4) (eI 1))))
  (aA (aa 3)))))
noncomputable def hB:Df:=⟨["stand", "hands"],3,oY⟩
noncomputable def Aa :=
  (aA (ai "needs_among" (ae (ai "touches_of" (a3 (aa 0) (aa 1) (aa 2))) aj)))
noncomputable def pK:Df:=⟨["program", "stand", "run"],0,Aa⟩
noncomputable def kQ :=
  (ag (ak (bA aj) (gN 1))
  (ag (Dx (aa 0) (gT 2 (ax (gN 2) (ax (gN 3) bN))) (jv (iC (t9 (aa 0) fR (cL (aa 2)))) (gN 4) (bS (iq (aF (ao kR (ao aE (eX 4 0) (eI 0)) (ao aE (eX 3 0) (eI 0)))) (aF (ai "is_needed" (a3 (aa 0) (aa 4) (aa 3))))) (cf (eM aS bD (aa 1) (ae (aw (a2 (eX 4 0) (eX 3 0))) aj))) cD)))
  (aA (eB aQ (ae (eB (lO false) (a1 (aa 1))) aj)))))
noncomputable def fc:Df:=⟨["touches"],4,kQ⟩
noncomputable def bQ :=
  (ag (ak (eX 1 0) (gN 3))
  (ag (ak (eX 1 1) (gN 4))
  (ag (ak (ao aE (eX 2 1) (eI 3)) (gN 5))
  (ag (bS (aF (ao kR (eX 4 1) (ao aE (eX 2 1) (eI 1)))) (aA (eC (.bl false))) cD)
  (ag (ak (aw (ae (eX 4 0) (ae (ao aE (eX 2 1) (eI 0)) aj))) (gN 6))
  (ag (bS (Ii (aF (ao eE (aa 6) (aw (a2 (eS "put") (eS "get"))))) (aF (ao eE (aa 6) (aw (a2 (eS "put") (eS "put")))))) (aA (ao eE (aa 5) (aa 3))) cD)
  (ag (bS (aF (ao eE (aa 6) (aw (a2 (eS "get") (eS "put"))))) (aA (ao eE (aa 5) (eX 4 3))) cD)
  (ag (bS (aF (ao eE (aa 6) (aw (a2 (eS "take") (eS "take"))))) (aA (ao eE (aa 5) (ai "free_from" (ae (aa 0) (a3 (eX 3 0) (eX 4 1) (eX 3 1)))))) cD)
  (aA (wK (ao eE (eX 6 0) (eX 6 1)) (wK (ao jE (eX 6 0) (eC (.ktup [(.str "send"),(.str "fetch"),(.str "say")]))) (ao eE (aa 5) (ao aV (eX 4 3) (eI 1))))))))))))))
noncomputable def bw:Df:=⟨["touches", "one", "other"],4,bQ⟩
noncomputable def jS :=
  (ag (jv (iC (aa 0)) (gT 2 (ax (gN 4) (ax (gN 5) bN))) (bS (iq (aF (ao eE (eX 4 0) (aa 1))) (iq (aF (ao Pb (eX 4 1) (aa 3))) (iq (mQ (eX 5 0) (eS "free")) (aF (ao eE (eX 5 1) (aa 2)))))) (aA (aa 4)) cD))
  (aA (eC .non)))
noncomputable def fH:Df:=⟨["touches", "hand", "lock", "number"],2,jS⟩
noncomputable def lN :=
  (ag (ak (ao dH (eI 7919) (aa 1)) (gN 2))
  (ag (bS (aF (ao NA (eB bG (a1 (aa 0))) (eI 0))) (ak (ao aV (ao aE (aa 0) (ao oJ (aa 1) (eB bG (a1 (aa 0))))) (ao dH (eI 1009) (ao kZ (aa 1) (eB bG (a1 (aa 0)))))) (gN 2)) cD)
  (aA (bA (ae (ao dH (aa 2) (eB vW (ae (ao Pb (aa 2) (ao F8 (eI 10) (eI 18))) aj))) (a2 (aa 2) (eI 0)))))))
noncomputable def gM:Df:=⟨["_law_script", "_law_k"],1,lN⟩
noncomputable def jP :=
  (ag (gW fD (aa 0) (eI 2) (ao aV (eX 0 2) (eI 1)))
  (ag (bS (aF (ao NA (eX 0 0) (eI 0))) (ag (ak (ao oJ (eX 0 0) (aa 1)) (gN 2))
  (ag (gW fD (aa 0) (eI 0) (ao kZ (eX 0 0) (aa 1)))
  (aA (aa 2)))) cD)
  (ag (ak (ao oJ (ao dH (ao aV (ao oJ (eX 0 1) (eI 2147483647)) (ao dH (eI 31) (eX 0 2))) (eI 48271)) (eI 2147483629)) (gN 3))
  (ag (ak (ao oJ (ao dH (ao aV (ao kZ (aa 3) (eI 11)) (ao dH (eI 17) (eX 0 2))) (eI 69621)) (eI 2147483587)) (gN 3))
  (aA (ao oJ (ao kZ (aa 3) (eI 7)) (aa 1)))))))
noncomputable def fh:Df:=⟨["_law_box_here", "_law_many"],2,jP⟩
noncomputable def eJ :=
  (ag (ak (ai "_law_take" (a2 (aa 0) (eI 8))) (gN 3))
  (ag (bS (Ii (mQ (aa 2) (eI 0)) (aF (ao AQ (aa 3) (eI 2)))) (aA (aw (ae (eS "num") (ae (ao aE (bA (ae (eI 0) (ae (eI 1) (ae (eI 2) (ae (eI 3) (a3 (eI 7) (eI 500) (eI 999))))))) (ai "_law_take" (a2 (aa 0) (eI 7)))) aj)))) cD)
  (ag (bS (aF (ao AQ (aa 3) (eI 5))) (aA (aw (ae (eS "of") (ae (ao aE (aa 1) (ai "_law_take" (ae (aa 0) (ae (eB bG (a1 (aa 1))) aj)))) aj)))) cD)
  (ag (bS (mQ (aa 3) (eI 5)) (aA (aw (ae (eS "not") (ae (ai "_law_sum" (ae (aa 0) (ae (aa 1) (ae (ao sP (aa 2) (eI 1)) aj)))) aj)))) cD)
  (ag (ak (ao aE (bA (ae (eS "add") (ae (eS "sub") (a3 (eS "mul") (eS "less") (eS "same"))))) (ai "_law_take" (a2 (aa 0) (eI 5)))) (gN 4))
  (aA (aw (ae (aa 4) (ae (ai "_law_sum" (ae (aa 0) (ae (aa 1) (ae (ao sP (aa 2) (eI 1)) aj)))) (ae (ai "_law_sum" (ae (aa 0) (ae (aa 1) (ae (ao sP (aa 2) (eI 1)) aj)))) aj))))))))))
noncomputable def cU:Df:=⟨["_law_box_here", "_law_pockets", "_law_deep"],2,eJ⟩
noncomputable def bT :=
  (ag (ak (ao aE (aa 3) (ai "_law_take" (ae (aa 0) (ae (eB bG (a1 (aa 3))) aj)))) (gN 4))
  (ag (ak (ao aE (aa 2) (ai "_law_take" (ae (aa 0) (ae (eB bG (a1 (aa 2))) aj)))) (gN 5))
  (ag (bS (aF (ao jE (aa 4) (aw (a2 (eS "clock") (eS "lot"))))) (aA (vK (mQ (aa 4) (eS "clock")) (aw (a2 (eS "clock") (aa 5))) (aw (ae (eS "lot") (ae (aa 5) (ae (ao aE (bA (ae (eI 2) (a3 (eI 3) (eI 7) (eI 1000)))) (ai "_law_take" (a2 (aa 0) (eI 4)))) aj)))))) cD)
  (ag (ak (ao aE (wA (fS (eS "get") (eI 0) (fS (eS "put") (eI 0) (fS (eS "take") (eI 1) (fS (eS "free") (eI 1) (fS (eS "send") (eI 2) (fS (eS "fetch") (eI 2) (fS (eS "say") (eI 3) (fS (eS "hear") (eI 3) DW))))))))) (aa 4)) (gN 6))
  (ag (ak (ao aE (ao aE (aa 1) (aa 6)) (ai "_law_take" (ae (aa 0) (ae (eB bG (ae (ao aE (aa 1) (aa 6)) aj)) aj)))) (gN 7))
  (ag (bS (aF (ao jE (aa 4) (aw (a3 (eS "get") (eS "fetch") (eS "hear"))))) (aA (aw (a3 (aa 4) (aa 5) (aa 7)))) cD)
  (aA (vK (aF (ao jE (aa 4) (aw (a2 (eS "take") (eS "free"))))) (aw (a2 (aa 4) (aa 7))) (aw (ae (aa 4) (ae (aa 7) (ae (ai "_law_sum" (a3 (aa 0) (aa 2) (eI 2))) aj))))))))))))
noncomputable def bo:Df:=⟨["_law_box_here", "_law_names", "_law_pockets", "_law_kinds"],4,bT⟩
noncomputable def oP :=
  (ag (ak (bA (a2 (eS "clock") (eS "lot"))) (gN 3))
  (ag (jv (iC (bA (ae (aw (ae (eI 0) (ae (bA (a2 (eS "get") (eS "put"))) aj))) (ae (aw (ae (eI 1) (ae (bA (a2 (eS "take") (eS "free"))) aj))) (ae (aw (ae (eI 2) (ae (bA (a2 (eS "send") (eS "fetch"))) aj))) (ae (aw (ae (eI 3) (ae (bA (a2 (eS "say") (eS "hear"))) aj))) aj)))))) (gT 2 (ax (gN 4) (ax (gN 5) bN))) (bS (aF (ao kR (ao aE (aa 1) (aa 4)) (bA aj))) (ak (ao aV (ao aV (aa 3) (aa 5)) (aa 5)) (gN 3)) cD))
  (ag (ak (ao aE (bA (ae (ai "_law_take" (a2 (aa 0) (eI 4))) (ae (ao aV (eI 3) (ai "_law_take" (a2 (aa 0) (eI 8)))) aj))) (eB vW (ae (ao NA (ai "_law_take" (a2 (aa 0) (eI 6))) (eI 0)) aj))) (gN 6))
  (ag (ak (bA aj) (gN 7))
  (ag (jv (cY (a1 (aa 6))) (gN 8) (ag (ak (ai "_law_take" (a2 (aa 0) (eI 8))) (gN 9))
  (bS (mQ (aa 9) (eI 0)) (cf (eM aS bD (aa 7) (ae (aw (ae (eS "let") (ae (ao aE (aa 2) (ai "_law_take" (ae (aa 0) (ae (eB bG (a1 (aa 2))) aj)))) (ae (ai "_law_sum" (a3 (aa 0) (aa 2) (eI 2))) aj)))) aj))) (bS (mQ (aa 9) (eI 1)) (cf (eM aS bD (aa 7) (ae (aw (ae (eS "leap") (ae (ai "_law_take" (ae (aa 0) (ae (ao aV (aa 6) (eI 1)) aj))) (ae (ai "_law_sum" (a3 (aa 0) (aa 2) (eI 2))) aj)))) aj))) (cf (eM aS bD (aa 7) (ae (ai "_law_touch_row" (ae (aa 0) (a3 (aa 1) (aa 2) (aa 3)))) aj)))))))
  (aA (eB aQ (a1 (aa 7)))))))))
noncomputable def h7:Df:=⟨["_law_box_here", "_law_names", "_law_pockets"],7,oP⟩
noncomputable def gG :=
  (ag (ak (bA (ae (eS "a") (ae (eS "ab") (ae (eS "putter") (ae (eS "b") (ae (eS "getx") (ae (eS "abc") (ae (eS "locked") (ae (eS "sayer") (ae (eS "c") (a3 (eS "hands") (eS "fetched") (eS "abcdefgh")))))))))))) (gN 1))
  (ag (ak (ai "_law_take" (a2 (aa 0) (eI 12))) (gN 2))
  (ag (ak (ao aV (t9 (aa 1) (cL (aa 2)) fR) (t9 (aa 1) fR (cL (aa 2)))) (gN 1))
  (ag (ak (bA aj) (gN 3))
  (ag (jv (cY (a1 (eI 4))) (gN 4) (ag (ak (ao aE (bA (ae (eI 1) (ae (eI 2) (a3 (eI 1) (eI 0) (eI 2))))) (ai "_law_take" (a2 (aa 0) (eI 5)))) (gN 5))
  (cf (eM aS bD (aa 3) (ae (t9 (aa 1) (cL (ao dH (eI 2) (aa 4))) (cL (ao aV (ao dH (eI 2) (aa 4)) (aa 5)))) aj)))))
  (ag (ak (eB aQ (ae (hW 1 (iC (eX 3 0)) (gN 10) aK (aw (ae (aa 10) (ae (ao aE (bA (ae (eI 0) (a3 (eI 5) (eI 999) (eI 1)))) (ai "_law_take" (a2 (aa 0) (eI 4)))) aj)))) aj)) (gN 6))
  (ag (ak (bA aj) (gN 7))
  (ag (jv (cY (ae (ao aE (bA (ae (eI 2) (ae (eI 2) (ae (eI 3) (a3 (eI 4) (eI 1) (eI 2)))))) (ai "_law_take" (a2 (aa 0) (eI 6)))) aj)) (gN 8) (ag (ak (t9 (bA (ae (eS "p") (ae (vK (aF (ao kR (eX 3 0) (bA aj))) (ao aE (eX 3 0) (eI 0)) (eS "q")) (ae (eS "pp") (ae (ao aE (aa 1) (ao aV (eI 8) (aa 8))) aj))))) fR (cL (ao aV (eI 1) (ai "_law_take" (a2 (aa 0) (eI 4)))))) (gN 9))
  (cf (eM aS bD (aa 7) (ae (aw (ae (ao aE (aa 1) (ao aV (eI 8) (aa 8))) (ae (ai "_law_rows" (a3 (aa 0) (aa 3) (aa 9))) aj))) aj)))))
  (aA (aw (ae (aa 6) (ae (eB aQ (a1 (eX 3 1))) (ae (eB aQ (a1 (eX 3 2))) (ae (eB aQ (a1 (eX 3 3))) (ae (eB aQ (a1 (aa 7))) aj)))))))))))))))
noncomputable def gP:Df:=⟨["_law_box_here"],9,gG⟩
noncomputable def bF :=
  (ag (bS (mQ (eX 0 0) (eS "num")) (aA (eX 0 1)) cD)
  (ag (bS (mQ (eX 0 0) (eS "of")) (aA (AV (aa 1) (eX 0 1) (eI 0))) cD)
  (ag (ak (ai "_law_worth" (a2 (eX 0 1) (aa 1))) (gN 2))
  (ag (bS (mQ (eX 0 0) (eS "not")) (aA (eB vW (ae (ao eE (aa 2) (eI 0)) aj))) cD)
  (ag (ak (ai "_law_worth" (a2 (eX 0 2) (aa 1))) (gN 3))
  (ag (bS (aF (ao jE (eX 0 0) (aw (a2 (eS "less") (eS "same"))))) (aA (vK (mQ (eX 0 0) (eS "less")) (eB vW (ae (ao AQ (aa 2) (aa 3)) aj)) (eB vW (ae (ao eE (aa 2) (aa 3)) aj)))) cD)
  (aA (ao oJ (ao aE (wA (fS (eS "add") (ao aV (aa 2) (aa 3)) (fS (eS "sub") (ao sP (aa 2) (aa 3)) (fS (eS "mul") (ao dH (aa 2) (aa 3)) DW)))) (eX 0 0)) (eI 1000)))))))))
noncomputable def bf:Df:=⟨["_law_e", "_law_pockets"],2,bF⟩
noncomputable def eU :=
  (ag (bS (Ii (mQ (eX 0 0) (eS "take")) (mQ (eX 0 0) (eS "free"))) (aA (ao eE (ao jE (eX 0 1) (aa 1)) (ao eE (eX 0 0) (eS "take")))) cD)
  (aA (ao jE (eX 0 0) (aw (a2 (eS "let") (eS "leap"))))))
noncomputable def cH:Df:=⟨["_law_row_here", "_law_held"],0,eU⟩
noncomputable def jZ :=
  (ag (ak (eI 0) (gN 4))
  (ag (u6 (iq (aF (ao AQ (aa 1) (eB bG (a1 (aa 0))))) (aF (ai "_law_is_own" (ae (ao aE (aa 0) (aa 1)) (a1 (aa 3)))))) (ag (bS (mQ (aa 4) (eI 200)) (aA (eB bG (a1 (aa 0)))) cD)
  (ag (ak (ao aE (aa 0) (aa 1)) (gN 5))
  (ag (ak (ao aV (aa 4) (eI 1)) (gN 4))
  (ag (ak (ao aV (aa 1) (eI 1)) (gN 1))
  (ag (bS (mQ (eX 5 0) (eS "let")) (gW fD (aa 2) (eX 5 1) (ai "_law_worth" (a2 (eX 5 2) (aa 2)))) cD)
  (bS (iq (mQ (eX 5 0) (eS "leap")) (aF (ao kR (ai "_law_worth" (a2 (eX 5 2) (aa 2))) (eI 0)))) (ak (eX 5 1) (gN 1)) cD)))))))
  (aA (aa 1))))
noncomputable def fu:Df:=⟨["_law_rows_here", "_law_at", "_law_pockets", "_law_held"],2,jZ⟩
noncomputable def jx :=
  (ag (ak (wA (fS (eS "counts") (bA aj) (fS (eS "seats") (bA aj) (fS (eS "doors") (hW 1 (iC (eX 0 3)) (gN 5) aK (eI 0)) DW)))) (gN 1))
  (ag (gW fD (aa 1) (eS "boxes") (hW 1 (iC (eX 0 0)) (gN 5) aK (aw (a2 (eX 5 1) (eC .non)))))
  (ag (gW fD (aa 1) (eS "locks") (hW 1 (iC (eX 0 1)) (gN 5) aK (aw (a2 (eC .non) (eC .non)))))
  (ag (gW fD (aa 1) (eS "lanes") (hW 1 (iC (eX 0 2)) (gN 5) aK (aw (a3 (eI 0) (eI 0) (aw aj)))))
  (ag (jv (iC (eX 0 4)) (gN 2) (ag (ak uz (gN 3))
  (ag (ak (ai "_law_rest" (ae (eX 2 1) (a3 (eI 0) (aa 3) (bA aj)))) (gN 4))
  (ag (cf (eM aS bD (ao aE (aa 1) (eS "counts")) (a1 (eI 0))))
  (cf (eM aS bD (ao aE (aa 1) (eS "seats")) (ae (aw (a3 (aa 4) (aa 3) (bA aj))) aj)))))))
  (aA (aa 1)))))))
noncomputable def jk:Df:=⟨["_law_program_here"],4,jx⟩
noncomputable def l8 :=
  (ag (ak (ao aE (ao aE (eX 0 4) (aa 2)) (eI 1)) (gN 3))
  (ag (ak (ao aE (ao aE (ao aE (aa 1) (eS "seats")) (aa 2)) (eI 0)) (gN 4))
  (aA (vK (aF (ao AQ (aa 4) (eB bG (a1 (aa 3))))) (ao aE (aa 3) (aa 4)) (eC .non)))))
noncomputable def gk:Df:=⟨["_law_program_here", "_law_state", "_law_hand"],2,l8⟩
noncomputable def cV :=
  (ag (ak (ai "_law_row" (a3 (aa 0) (aa 1) (aa 2))) (gN 3))
  (ag (bS (aF (Az (gX false) (aa 3))) (aA (eS "end")) cD)
  (ag (bS (mQ (eX 3 0) (eS "take")) (ag (ak (ao aE (ao aE (ao aE (aa 1) (eS "locks")) (HU (eX 0 1) (a1 (eX 3 1)))) (eI 0)) (gN 4))
  (aA (vK (aF (Az (gX false) (aa 4))) (eC .non) (aw (a3 (eS "lock") (eX 3 1) (aa 4)))))) cD)
  (ag (bS (iq (mQ (eX 3 0) (eS "fetch")) (aF (ao eE (ao aE (ao aE (ao aE (aa 1) (eS "lanes")) (HU (eX 0 2) (a1 (eX 3 2)))) (eI 2)) (aw aj)))) (aA (aw (a2 (eS "letter") (eX 3 2)))) cD)
  (aA (eC .non))))))
noncomputable def cj:Df:=⟨["_law_program_here", "_law_state", "_law_hand"],2,cV⟩
noncomputable def iU :=
  (ag (bS (mQ (eX 2 0) (eS "get")) (ag (ak (ao aE (ao aE (aa 1) (eS "boxes")) (eM i8 bD (hW 1 (iC (eX 0 0)) (gN 8) aK (eX 8 0)) (a1 (eX 2 2)))) (gT 2 (ax (gN 5) (ax (gN 6) bN))))
  (ag (gW fD (aa 4) (eX 2 1) (aa 5))
  (aA (aw (ae (eS "get") (a3 (eX 2 2) (aa 5) (aa 6))))))) cD)
  (ag (ak (eM i8 bD (hW 1 (iC (eX 0 0)) (gN 8) aK (eX 8 0)) (a1 (eX 2 1))) (gN 7))
  (ag (ak (ao aE (ao aE (ao aE (aa 1) (eS "boxes")) (aa 7)) (eI 1)) (gN 6))
  (ag (gW fD (ao aE (aa 1) (eS "boxes")) (aa 7) (aw (ae (ai "_law_worth" (a2 (eX 2 2) (aa 4))) (a1 (aa 3)))))
  (aA (aw (ae (eS "put") (ae (eX 2 1) (ae (ao aE (ao aE (ao aE (aa 1) (eS "boxes")) (aa 7)) (eI 0)) (a1 (aa 6)))))))))))
noncomputable def d8:Df:=⟨["_law_program_here", "_law_state", "_law_row_here", "_law_event", "_law_pockets"],3,iU⟩
noncomputable def iw :=
  (ag (ak (HU (eX 0 1) (a1 (eX 2 1))) (gN 5))
  (ag (ak (ao aE (ao aE (ao aE (aa 1) (eS "locks")) (aa 5)) (eI 1)) (gN 6))
  (ag (bS (mQ (eX 2 0) (eS "take")) (ag (gW fD (ao aE (aa 1) (eS "locks")) (aa 5) (aw (a2 (eX 3 0) (aa 6))))
  (ag (cf (eM aS bD (aa 4) (a1 (eX 2 1))))
  (aA (aw (ae (eS "take") (a3 (eX 2 1) (eC .non) (aa 6))))))) cD)
  (ag (gW fD (ao aE (aa 1) (eS "locks")) (aa 5) (aw (a2 (eC .non) (aa 3))))
  (ag (cf (eM nE bD (aa 4) (a1 (eX 2 1))))
  (aA (aw (ae (eS "free") (a3 (eX 2 1) (eC .non) (eC .non))))))))))
noncomputable def dj:Df:=⟨["_law_program_here", "_law_state", "_law_row_here", "_law_event", "_law_held"],2,iw⟩
noncomputable def jw :=
  (ag (bS (mQ (eX 2 0) (eS "send")) (ag (ak (HU (eX 0 2) (a1 (eX 2 1))) (gN 4))
  (ag (ak (ao aE (ao aE (aa 1) (eS "lanes")) (aa 4)) (gT 3 (ax (gN 5) (ax (gN 6) (ax (gN 7) bN)))))
  (ag (ak (ai "_law_worth" (a2 (eX 2 2) (aa 3))) (gN 8))
  (ag (gW fD (ao aE (aa 1) (eS "lanes")) (aa 4) (aw (ae (ao aV (aa 5) (eI 1)) (ae (aa 6) (ae (ao aV (aa 7) (aw (a1 (aa 8)))) aj)))))
  (aA (aw (ae (eS "send") (a3 (eX 2 1) (aa 8) (aa 5))))))))) cD)
  (ag (ak (HU (eX 0 2) (a1 (eX 2 2))) (gN 4))
  (ag (ak (ao aE (ao aE (aa 1) (eS "lanes")) (aa 4)) (gT 3 (ax (gN 5) (ax (gN 6) (ax (gN 7) bN)))))
  (ag (gW fD (ao aE (aa 1) (eS "lanes")) (aa 4) (aw (ae (aa 5) (ae (ao aV (aa 6) (eI 1)) (ae (t9 (aa 7) (cL (eI 1)) fR) aj)))))
  (ag (gW fD (aa 3) (eX 2 1) (eX 7 0))
  (aA (aw (ae (eS "fetch") (a3 (eX 2 2) (eX 7 0) (aa 6))))))))))
noncomputable def dO:Df:=⟨["_law_program_here", "_law_state", "_law_row_here", "_law_pockets"],5,jw⟩
noncomputable def nW :=
  (ag (ak (ao aE (ao aE (aa 1) (eS "seats")) (aa 2)) (gT 3 (ax (gN 4) (ax (gN 5) (ax (gN 6) bN)))))
  (ag (ak (ai "_law_row" (a3 (aa 0) (aa 1) (aa 2))) (gN 7))
  (ag (ak (aw (ae (aa 2) (ae (ao aE (ao aE (aa 1) (eS "counts")) (aa 2)) aj))) (gN 8))
  (ag (bS (aF (ao jE (eX 7 0) (aw (a2 (eS "get") (eS "put"))))) (ak (ai "_law_boxed" (ae (aa 0) (ae (aa 1) (a3 (aa 7) (aa 8) (aa 5))))) (gN 9)) (bS (aF (ao jE (eX 7 0) (aw (a2 (eS "take") (eS "free"))))) (ak (ai "_law_locked" (ae (aa 0) (ae (aa 1) (a3 (aa 7) (aa 8) (aa 6))))) (gN 9)) (bS (aF (ao jE (eX 7 0) (aw (a2 (eS "send") (eS "fetch"))))) (ak (ai "_law_laned" (ae (aa 0) (a3 (aa 1) (aa 7) (aa 5)))) (gN 9)) (bS (mQ (eX 7 0) (eS "say")) (ag (ak (HU (eX 0 3) (a1 (eX 7 1))) (gN 10))
  (ag (ak (aw (ae (eS "say") (ae (eX 7 1) (ae (ai "_law_worth" (a2 (eX 7 2) (aa 5))) (ae (ao aE (ao aE (aa 1) (eS "doors")) (aa 10)) aj))))) (gN 9))
  (gW fD (ao aE (aa 1) (eS "doors")) (aa 10) (ao aV (ao aE (ao aE (aa 1) (eS "doors")) (aa 10)) (eI 1))))) (ag (gW fD (aa 5) (eX 7 1) (aa 3))
  (ak (aw (ae (eX 7 0) (ae (vK (mQ (eX 7 0) (eS "hear")) (eX 7 2) (eS "")) (a2 (aa 3) (eC .non))))) (gN 9)))))))
  (ag (gW fD (ao aE (aa 1) (eS "counts")) (aa 2) (ao aV (eX 8 1) (eI 1)))
  (ag (gW fD (ao aE (aa 1) (eS "seats")) (aa 2) (aw (ae (ai "_law_rest" (ae (ao aE (ao aE (eX 0 4) (aa 2)) (eI 1)) (ae (ao aV (aa 4) (eI 1)) (a2 (aa 5) (aa 6))))) (a2 (aa 5) (aa 6)))))
  (aA (aa 9))))))))
noncomputable def oD:Df:=⟨["_law_program_here", "_law_state", "_law_hand", "_law_gift_here"],7,nW⟩
noncomputable def qd :=
  (aA (hW 1 (cY (ae (eB bG (a1 (eX 0 4))) aj)) (gN 2) (aF (Az (gX false) (ai "_law_wait" (a3 (aa 0) (aa 1) (aa 2))))) (aa 2)))
noncomputable def jr:Df:=⟨["_law_program_here", "_law_state"],0,qd⟩
noncomputable def hO :=
  (ag (bS (aF (ao lu (eX 1 0) (aw (a3 (eS "clock") (eS "lot") (eS "hear"))))) (aA (eC .non)) cD)
  (ag (ak (vK (mQ (eX 1 0) (eS "lot")) (eX 1 2) (eI 1000)) (gN 2))
  (aA (ao aE (bA (ae (eI 0) (ae (ao sP (aa 2) (eI 1)) (ae (ai "_law_take" (a2 (aa 0) (aa 2))) (ae (ai "_law_take" (a2 (aa 0) (eI 2))) aj))))) (ai "_law_take" (a2 (aa 0) (eI 4)))))))
noncomputable def dI:Df:=⟨["_law_box_here", "_law_row_here"],1,hO⟩
noncomputable def jf :=
  (ag (ak (bA aj) (gN 4))
  (ag (ak (bA aj) (gN 5))
  (ag (ak (ai "_law_can" (a2 (aa 0) (aa 2))) (gN 6))
  (ag (u6 (iq (aF (ao kR (aa 6) (bA aj))) (aF (ao AQ (eB bG (a1 (aa 4))) (aa 3)))) (ag (ak (ao aE (aa 6) (ai "_law_take" (ae (aa 1) (ae (eB bG (a1 (aa 6))) aj)))) (gN 7))
  (ag (ak (ai "_law_gift" (ae (aa 1) (ae (ai "_law_row" (a3 (aa 0) (aa 2) (aa 7))) aj))) (gN 8))
  (ag (cf (eM aS bD (aa 4) (ae (aw (a2 (aa 7) (aa 8))) aj)))
  (ag (cf (eM aS bD (aa 5) (ae (aw (ae (aa 7) (ae (ai "_law_go" (ae (aa 0) (a3 (aa 2) (aa 7) (aa 8)))) aj))) aj)))
  (ak (ai "_law_can" (a2 (aa 0) (aa 2))) (gN 6)))))))
  (aA (aw (ae (eB aQ (a1 (aa 4))) (ae (eB aQ (a1 (aa 5))) aj))))))))
noncomputable def jq:Df:=⟨["_law_program_here", "_law_box_here", "_law_state", "_law_most"],5,jf⟩
noncomputable def fg :=
  (aA (uE NP AQ (ao aE (aa 0) (eX 2 0)) (eX 2 1) (ao aV (ao aE (aa 0) (eX 2 0)) (ao aE (aa 1) (eX 2 0)))))
noncomputable def cI:Df:=⟨["_law_counts", "_law_many", "_law_event"],0,fg⟩
noncomputable def jB :=
  (ag (ak (eX 1 0) (gN 4))
  (ag (ak (hW 1 (cY (ae (eB bG (a1 (aa 4))) aj)) (gN 7) aK (eB bG (ae (hW 1 (iC (aa 3)) (gN 8) (aF (ao eE (eX 8 0) (aa 7))) (aa 8)) aj))) (gN 5))
  (ag (ak (hW 1 (iC (aa 2)) (gN 7) (iq (aF (ai "_law_inside" (a3 (aa 4) (aa 5) (eX 7 0)))) (aF (ai "_law_inside" (a3 (aa 4) (aa 5) (eX 7 1))))) (aa 7)) (gN 6))
  (aA (ao eE (ai "needs" (a3 (aa 0) (aa 1) (aa 3))) (eB aQ (a1 (aa 6))))))))
noncomputable def dw:Df:=⟨["_law_program_here", "_law_stand", "_law_whole", "_law_piece"],3,jB⟩
noncomputable def En :=
  (ag (ak (ai "_law_box" (a2 (aa 0) (eI 0))) (gN 1))
  (ag (ak (ai "_law_program" (a1 (aa 1))) (gN 2))
  (ag (ak (ao aE (ai "_law_drawn" (ae (aa 2) (ae (aa 1) (ae (ai "_law_first" (a1 (aa 2))) (ae (ai "_law_take" (a2 (aa 1) (eI 31))) aj))))) (eI 0)) (gN 3))
  (ag (ak (eB mn (ae (bA (ae (ai "_law_take" (ae (aa 1) (ae (ao aV (eB bG (a1 (aa 3))) (eI 1)) aj))) (ae (ai "_law_take" (ae (aa 1) (ae (ao aV (eB bG (a1 (aa 3))) (eI 1)) aj))) aj))) aj)) (gN 4))
  (ag (ak (bA (ae (t9 (aa 3) fR (cL (eX 4 0))) (ae (t9 (aa 3) (cL (eX 4 0)) (cL (eX 4 1))) (ae (t9 (aa 3) (cL (eX 4 1)) fR) aj)))) (gN 5))
  (ag (ak (ai "first_stand" (a1 (aa 2))) (gN 6))
  (ag (ak (ai "walked" (a3 (aa 2) (aa 6) (aa 3))) (gT 2 (ax (gN 7) (ax (gN 8) bN))))
  (ag (ak (ai "needs" (a3 (aa 2) (aa 6) (aa 3))) (gN 9))
  (ag (ak (hW 1 (iC (eX 2 0)) (gN 18) aK (eX 18 0)) (gN 10))
  (ag (jv (iC (t9 (aa 2) (cL (eI 1)) (cL (eI 4)))) (gN 11) (ak (ao aV (aa 10) (eB kS (a1 (aa 11)))) (gN 10)))
  (ag (ak (aa 6) (gN 12))
  (ag (ak (aw aj) (gN 13))
  (ag (ak (hW 1 (iC (eX 2 4)) (gN 18) aK (aw aj)) (gN 14))
  (ag (ak (hW 1 (iC (aa 10)) (gN 18) aK (bA aj)) (gN 15))
  (ag (jv (iC (aa 5)) (gN 16) (ag (bS (uW (aF (ai "_law_is_piece" (ae (aa 2) (a3 (aa 12) (aa 9) (aa 16)))))) (aA (eC (.bl false))) cD)
  (ag (ak (ai "tables_of" (a3 (aa 2) (aa 12) (aa 16))) (gN 11))
  (ag (ak (hW 1 (cY (ae (eB bG (a1 (aa 14))) aj)) (gN 18) aK (ao aV (ao aE (aa 14) (aa 18)) (ao aE (aa 11) (aa 18)))) (gN 14))
  (ag (ak (hW 1 (cY (ae (eB bG (a1 (aa 10))) aj)) (gN 18) aK (ao aV (ao aE (aa 15) (aa 18)) (ai "history" (ae (aa 2) (ae (aa 12) (ae (aa 16) (ae (ao aE (aa 10) (aa 18)) aj))))))) (gN 15))
  (ag (ak (ai "walked" (a3 (aa 2) (aa 12) (aa 16))) (gT 2 (ax (gN 12) (ax (gN 17) bN))))
  (ak (ao aV (aa 13) (aa 17)) (gN 13))))))))
  (ag (bS (Ii (aF (ao kR (eB iy (ae (aw (a2 (aa 12) (aa 13))) aj)) (eB iy (ae (aw (a2 (aa 7) (aa 8))) aj)))) (aF (ao kR (eB iy (ae (eB aQ (a1 (aa 14))) aj)) (eB iy (ae (ai "tables_of" (a3 (aa 2) (aa 6) (aa 3))) aj))))) (aA (eC (.bl false))) cD)
  (aA (ao eE (aa 15) (hW 1 (iC (aa 10)) (gN 18) aK (ai "history" (ae (aa 2) (a3 (aa 6) (aa 3) (aa 18)))))))))))))))))))))))
noncomputable def EI:Df:=⟨["_law_script"],17,En⟩
structure bH(pg:Tb):Prop where
 yT:pg.fns "is_whole" =fI jc
 uh:pg.fns "is_between" =fI fW
 zJ:pg.fns "is_value" =fI iS
 sE:pg.fns "is_tuple_of" =fI eR
 pH:pg.fns "worth" =fI i7
 qo:pg.fns "joined_worth" =fI dZ
 yC:pg.fns "names_of" =fI ju
 pd:pg.fns "number_of" =fI fE
 BL:pg.fns "rows_of" =fI kh
 vx:pg.fns "first_seat" =fI fU
 Eb:pg.fns "rested" =fI mR
 wt:pg.fns "is_rested" =fI fq
 vJ:pg.fns "is_own_row" =fI fV
 oz:pg.fns "behind_own_row" =fI bU
 J4:pg.fns "laid" =fI rS
 yN:pg.fns "touch_of" =fI gH
 sM:pg.fns "seat_behind" =fI cq
 zW:pg.fns "may_come" =fI gz
 sI:pg.fns "first_stand" =fI eZ
 rW:pg.fns "hands_of" =fI gJ
 yQ:pg.fns "state_of" =fI iY
 Cp:pg.fns "wait_of" =fI cW
 CI:pg.fns "gone" =fI qc
 xN:pg.fns "due_touch" =fI hZ
 uV:pg.fns "takes_gift" =fI dQ
 eN:pg.fns "meeting" =fI cG
 rJ:pg.fns "with_hand_on" =fI dX
 ue:pg.fns "with_state" =fI fZ
 zp:pg.fns "replaced" =fI iW
 DO:pg.fns "walked" =fI m8
 BI:pg.fns "stepped" =fI kq
 xK:pg.fns "tables_of" =fI hV
 yz:pg.fns "looks_of" =fI i6
 tS:pg.fns "history" =fI iD
 mM:pg.fns "touches_of" =fI d6
 sZ:pg.fns "with_events" =fI eY
 xl:pg.fns "events_by" =fI hB
 Hf:pg.fns "needs" =fI pK
 sT:pg.fns "needs_among" =fI fc
 xa:pg.fns "is_needed" =fI bw
 yb:pg.fns "free_from" =fI fH
 qt:pg.fns "_law_box" =fI gM
 oV:pg.fns "_law_take" =fI fh
 gv:pg.fns "_law_sum" =fI cU
 cB:pg.fns "_law_touch_row" =fI bo
 wR:pg.fns "_law_rows" =fI h7
 qy:pg.fns "_law_program" =fI gP
 gb:pg.fns "_law_worth" =fI bf
 sk:pg.fns "_law_is_own" =fI cH
 wB:pg.fns "_law_rest" =fI fu
 uT:pg.fns "_law_first" =fI jk
 zE:pg.fns "_law_row" =fI gk
 w7:pg.fns "_law_wait" =fI cj
 nM:pg.fns "_law_boxed" =fI d8
 kT:pg.fns "_law_locked" =fI dj
 nK:pg.fns "_law_laned" =fI dO
 BY:pg.fns "_law_go" =fI oD
 ym:pg.fns "_law_can" =fI jr
 jL:pg.fns "_law_gift" =fI dI
 uC:pg.fns "_law_drawn" =fI jq
 sy:pg.fns "_law_inside" =fI cI
 pG:pg.fns "_law_is_piece" =fI dw
 Jg:pg.fns "law" =fI EI
 PY:pg.con "SORTS" =fI (.ktup [(.str "box"),(.str "lock"),(.str "lane"),(.str "door"),(.str "hand")])
 NM:pg.con "WORTHS" =fI (.int 1000)
 CA:pg.con "MOST_OWN_ROWS" =fI (.int 200)
 Jk:pg.con "POCKETING" =fI (.ktup [(.str "get"),(.str "fetch"),(.str "clock"),(.str "lot"),(.str "hear")])
 Ob:pg.con "COUNTS" =fI (.int 0)
 PI:pg.con "SEATS" =fI (.int 1)
 Pe:pg.con "GIFTED" =fI (.ktup [(.str "clock"),(.str "lot"),(.str "hear")])
 Ir:pg.con "MOST_STEPS" =fI (.int 60)
 Nn:pg.con "COUNTED" =fI (.ktup [(.str "send"),(.str "fetch"),(.str "say")])
 fz:pg.xG "ROW_PARTS" =fI fz
 cF:pg.xG "PLACE_OF" =fI cF
 gy:pg.xG "MET_SORT" =fI gy
noncomputable def fnT:=[("is_whole",jc),("is_between",fW),("is_value",iS),("is_tuple_of",eR),("worth",i7),("joined_worth",dZ),("names_of",ju),("number_of",fE),("rows_of",kh),("first_seat",fU),("rested",mR),("is_rested",fq),("is_own_row",fV),("behind_own_row",bU),("laid",rS),("touch_of",gH),("seat_behind",cq),("may_come",gz),("first_stand",eZ),("hands_of",gJ),("state_of",iY),("wait_of",cW),("gone",qc),("due_touch",hZ),("takes_gift",dQ),("meeting",cG),("with_hand_on",dX),("with_state",fZ),("replaced",iW),("walked",m8),("stepped",kq),("tables_of",hV),("looks_of",i6),("history",iD),("touches_of",d6),("with_events",eY),("events_by",hB),("needs",pK),("needs_among",fc),("is_needed",bw),("free_from",fH),("_law_box",gM),("_law_take",fh),("_law_sum",cU),("_law_touch_row",bo),("_law_rows",h7),("_law_program",gP),("_law_worth",bf),("_law_is_own",cH),("_law_rest",fu),("_law_first",jk),("_law_row",gk),("_law_wait",cj),("_law_boxed",d8),("_law_locked",dj),("_law_laned",dO),("_law_go",oD),("_law_can",jr),("_law_gift",dI),("_law_drawn",jq),("_law_inside",cI),("_law_is_piece",dw),("law",EI)]
noncomputable def conT:List (Str × PV):=[("SORTS",(.ktup [(.str "box"),(.str "lock"),(.str "lane"),(.str "door"),(.str "hand")])),("WORTHS",(.int 1000)),("MOST_OWN_ROWS",(.int 200)),("POCKETING",(.ktup [(.str "get"),(.str "fetch"),(.str "clock"),(.str "lot"),(.str "hear")])),("COUNTS",(.int 0)),("SEATS",(.int 1)),("GIFTED",(.ktup [(.str "clock"),(.str "lot"),(.str "hear")])),("MOST_STEPS",(.int 60)),("COUNTED",(.ktup [(.str "send"),(.str "fetch"),(.str "say")]))]
noncomputable def dcT:List (Str × List (Key × PV)):=[("ROW_PARTS",fz),("PLACE_OF",cF),("MET_SORT",gy)]
noncomputable def tb:Tb:=⟨λf=>(fnT.find? λp=>p.1 == f).map (·.2),λx=>(conT.find? λp=>decide (p.1=x)).map (·.2),λx=>(dcT.find? λp=>decide (p.1=x)).map (·.2),λ_=>ox,λ_=>ox,λ_=>ox⟩
theorem aH{l:List (String × Df)}(nd:(l.map (·.1)).Nodup)(i:Nat)(e:l[i]?=fI (f,d)):(l.find? λp=>p.1 == f).map (·.2)=fI d:=by
 induction l generalizing i d with
 | nil=>cases e
 | cons x l ih =>
  rw[R9,U1] at nd
  cases i with
  | zero =>
   simp_all
  | succ i =>
   rw[S5] at e
   have m:=Se e
   have ne: ¬ (x.1 == f)=true:=λz=>nd.1 (by rw[beq_iff_eq.mp z];exact SS.mpr ⟨_,m,rfl⟩)
   rw[YU (p:=λp:String × Df=>p.1 == f) ne]
   exact ih nd.2 i e
theorem aI:(fnT.map (·.1)).Nodup:=by decide +kernel
theorem has:bH tb:=⟨aH aI 0 rfl,aH aI 1 rfl,aH aI 2 rfl,aH aI 3 rfl,aH aI 4 rfl,aH aI 5 rfl,aH aI 6 rfl,aH aI 7 rfl,aH aI 8 rfl,aH aI 9 rfl,aH aI 10 rfl,aH aI 11 rfl,aH aI 12 rfl,aH aI 13 rfl,aH aI 14 rfl,aH aI 15 rfl,aH aI 16 rfl,aH aI 17 rfl,aH aI 18 rfl,aH aI 19 rfl,aH aI 20 rfl,aH aI 21 rfl,aH aI 22 rfl,aH aI 23 rfl,aH aI 24 rfl,aH aI 25 rfl,aH aI 26 rfl,aH aI 27 rfl,aH aI 28 rfl,aH aI 29 rfl,aH aI 30 rfl,aH aI 31 rfl,aH aI 32 rfl,aH aI 33 rfl,aH aI 34 rfl,aH aI 35 rfl,aH aI 36 rfl,aH aI 37 rfl,aH aI 38 rfl,aH aI 39 rfl,aH aI 40 rfl,aH aI 41 rfl,aH aI 42 rfl,aH aI 43 rfl,aH aI 44 rfl,aH aI 45 rfl,aH aI 46 rfl,aH aI 47 rfl,aH aI 48 rfl,aH aI 49 rfl,aH aI 50 rfl,aH aI 51 rfl,aH aI 52 rfl,aH aI 53 rfl,aH aI 54 rfl,aH aI 55 rfl,aH aI 56 rfl,aH aI 57 rfl,aH aI 58 rfl,aH aI 59 rfl,aH aI 60 rfl,aH aI 61 rfl,aH aI 62 rfl,rfl,rfl,rfl,rfl,rfl,rfl,rfl,rfl,rfl,rfl,rfl,rfl⟩
local macro_rules
 | `(tactic| array_get_dec)=> `(tactic| repeat' first | (show JE _ _ _ _ _;first | (with_reducible (show JE _ _ _ _ (eB (lO _) _)));refine zi (G3 _) rfl (by decide +kernel) Nf ?_ | (with_reducible (show JE _ _ _ _ (eB mn _)));refine zi IC rfl (by decide +kernel) Nf ?_ | exact Kh _ | exact Lc | exact L4 | exact Kn | exact NH | refine OG P8 ?_ ?_ (λ_ _=>rfl) | refine FU (by assumption) rfl ?_ | refine OI ?_ ?_ ?_ | refine Ce rfl rfl ?_ | refine FF rfl rfl ?_ ?_ | refine A7 (by assumption) rfl ?_ | refine BK ?_ ?_ | refine Kc ?_ | refine Kr ?_ | refine Dg ?_ ?_ ?_ (Dm _) | refine Dg ?_ ?_ ?_ rfl | refine J3 ?_ | refine CY ?_ ?_ ?_ ?_ ?_ | refine aba ?_ | refine KG ?_ ?_ | refine aaV ?_ ?_ | refine M4 ?_ | refine EL ?_ ?_ ?_ | refine Hy (by assumption) rfl ?_ (λ_ _=>rfl) | refine Ej ?_ ?_ ?_ | exact C5 | refine H8 ?_ rfl rfl (by intro z;cases z) (by decide) | refine Hu ?_ ?_ ?_ ⟨rfl,rfl,rfl,rfl⟩ | refine M6 ?_ (λ_ _ _ _ _ _ _=>⟨?_,?_,?_⟩) | refine LI ?_ (λ_ _ _ _ _ _ _=>⟨?_,?_,?_⟩) | exact Ki (by assumption) rfl | (with_reducible (show JE _ _ _ _ (eB bG _)));refine zi Pc rfl (by decide +kernel) PySem.boot_len ?_ | (with_reducible (show JE _ _ _ _ (eB sC _)));refine zi OV rfl (by decide +kernel) boot_isinstance ?_ | refine zi Pl rfl (by decide +kernel) boot_all ?_ | (with_reducible (show JE _ _ _ _ (eB dN _)));refine zi Co rfl (by decide +kernel) Nf ?_ | refine HC Pa rfl (by decide +kernel) boot_int ?_ | (with_reducible (show JE _ _ _ _ (eB aQ _)));refine HC GC rfl (by decide +kernel) boot_tuple ?_ | (with_reducible (show JE _ _ _ _ (eB kS _)));refine HC JJ rfl (by decide +kernel) KC ?_ | (with_reducible (show JE _ _ _ _ (eB wQ _)));refine HC aap rfl (by decide +kernel) boot_dict ?_ | (with_reducible (show JE _ _ _ _ (eB iy _)));refine zi IG rfl (by decide +kernel) boot_repr ?_ | exact xj rfl (by decide +kernel) boot_int | exact xj rfl (by decide +kernel) boot_bool | exact xj rfl (by decide +kernel) KC | exact xj rfl (by decide +kernel) boot_tuple | exact xj rfl (by decide +kernel) boot_dict | refine La Wf PySem.F.slot_list_append PySem.F.type_list_append aaM ?_ ?_ | refine La Wf PySem.F.slot_list_remove PySem.F.type_list_remove Ft ?_ ?_ | refine La Wf PySem.F.slot_list_index PySem.F.type_list_index Dr ?_ ?_) | (show JS _ _ _ _ _;first | refine GI ?_ | refine Lo (by assumption) ?_ (λ_ _ _ _ _ _ _=>⟨?_,?_,?_⟩) | refine K8 (by assumption) ?_ (λ_ _ _ _ _ _ _=>⟨?_,?_,?_⟩) | refine KS (by assumption) rfl (by first | exact Or.inl rfl | exact Or.inr rfl) ?_ | refine HI ?_ ?_ ?_ | refine Ox ?_ ?_ ?_ | refine Nj ?_ | refine Iw ?_ | refine Kq Jb ?_ ?_ ?_ | refine Mj ?_ ?_ | refine Ie rfl ?_ ?_ ?_ | refine Kf ?_ ?_ ?_ | refine CM ?_ ?_ | exact EY) | (show JA _ _ _ _ _;first | exact L6 | refine GA ?_ ?_) | (show BS _ _ _ _ _;first | exact HM | refine Hv ?_ | refine Ed ?_ ?_) | (show JT _ _ _ _ _;first | refine Fb ?_ ?_ ?_ (Dm _) | refine Fb ?_ ?_ ?_ rfl | refine Lr ?_ | refine Iz ?_ | refine JW.pt (E9 ?_ ?_) | refine JW.pt (IP ?_ ?_) | refine K7 ?_ | refine aaX ?_) | (show JW _ _ _ _ _;first | refine E9 ?_ ?_ | refine IP ?_ ?_ | refine GJ ?_ | refine Kg ?_) | (show JO _ _ _ _ _;first | exact HD | refine Ht ?_) | (show JP _ _ _ _ _ _ _;first | exact Mz | refine Gd ?_ ?_ ?_) | (show JG _ _ _ _ _;first | exact Iy (by assumption) rfl (by first | exact Or.inl rfl | exact Or.inr rfl) | refine MB ?_) | (show OY _ _ _ _ _;first | exact Iq | refine ET ?_ ?_) | (show JI _ _ _ _ _ _;first | refine Bx rfl ?_ | refine M5 rfl ?_ ?_ | refine G1 rfl ?_ | exact Hd (by assumption) rfl | refine Lx ?_) | (show JF _ _ _ _ _;first | exact MU | refine abf ?_) | with_reducible exact N6 | with_reducible exact Gq | with_reducible exact O9 | with_reducible exact Li | with_reducible exact NS | with_reducible exact NQ | with_reducible exact Qe | with_reducible exact Ql | with_reducible exact QI | with_reducible exact Qg | with_reducible exact Qp | with_reducible exact Qi | with_reducible exact aaW | with_reducible exact aaP)
local macro_rules
 | `(tactic| clean_wf)=> `(tactic| (first | refine aU.on (by assumption) ⟨rfl,rfl,rfl,by decide +kernel,rfl,by decide +kernel,by decide +kernel⟩ rfl (λ_ _ _ _ _ _=>by first | exact Q8 λ_=>rfl | exact Q2 λ_ _=>rfl | exact Rc λ_ _ _=>rfl | exact Q5 λ_ _ _ _=>rfl | exact RD λ_ _ _ _ _=>rfl) λ_ _ _ _ _ _ _ _ _ _=>?_);obtain⟨⟩:= ‹bH _›; array_get_dec)
section
variable {P:SP} {w:Tp} {K:Sy} {mg:Str->Option RZ} {pg:Tb}
theorem yt(T:bH pg)(a:At K mg "is_whole" (top 5)):aU P w K mg pg "is_whole" jc (top 5) ["thing"]:=by clean_wf
theorem uO(T:bH pg)(a:At K mg "is_between" (top 6)):aU P w K mg pg "is_between" fW (top 6) ["thing", "least", "most"]:=by clean_wf
theorem zG(T:bH pg)(a:At K mg "is_value" (top 7)):aU P w K mg pg "is_value" iS (top 7) ["thing"]:=by clean_wf
theorem aac(T:bH pg)(a:At K mg "is_tuple_of" (top 8)):aU P w K mg pg "is_tuple_of" eR (top 8) ["thing", "many"]:=by clean_wf
theorem Io(T:bH pg)(a:At K mg "worth" (top 13)):aU P w K mg pg "worth" i7 (top 13) ["tree", "pockets", "word", "one"]:=by clean_wf
theorem qT(T:bH pg)(a:At K mg "joined_worth" (top 14)):aU P w K mg pg "joined_worth" dZ (top 14) ["word", "one", "other"]:=by clean_wf
theorem aaZ(T:bH pg)(a:At K mg "names_of" (top 16)):aU P w K mg pg "names_of" ju (top 16) ["program", "sort", "ones"]:=by
 have z0:(lE ["program", "sort", "ones"] ["one"]).Nodup:=by decide +kernel
 clean_wf
theorem xW(T:bH pg)(a:At K mg "number_of" (top 17)):aU P w K mg pg "number_of" fE (top 17) ["program", "sort", "name", "names"]:=by clean_wf
theorem BB(T:bH pg)(a:At K mg "rows_of" (top 18)):aU P w K mg pg "rows_of" kh (top 18) ["program", "hand"]:=by clean_wf
theorem uL(T:bH pg)(a:At K mg "first_seat" (top 22)):aU P w K mg pg "first_seat" fU (top 22) ["program", "hand"]:=by clean_wf
theorem EK(T:bH pg)(a:At K mg "rested" (top 23)):aU P w K mg pg "rested" mR (top 23) ["program", "hand", "seat", "rows", "here", "turn"]:=by clean_wf
theorem yc(T:bH pg)(a:At K mg "is_rested" (top 24)):aU P w K mg pg "is_rested" fq (top 24) ["rows", "seat"]:=by clean_wf
theorem aaF(T:bH pg)(a:At K mg "is_own_row" (top 25)):aU P w K mg pg "is_own_row" fV (top 25) ["row", "held"]:=by clean_wf
theorem oG(T:bH pg)(a:At K mg "behind_own_row" (top 26)):aU P w K mg pg "behind_own_row" bU (top 26) ["row", "seat", "onward"]:=by clean_wf
theorem L7(T:bH pg)(a:At K mg "laid" (top 27)):aU P w K mg pg "laid" rS (top 27) ["pockets", "name", "value", "others"]:=by
 have z0:(lE ["pockets", "name", "value", "others"] ["pocket"]).Nodup:=by decide +kernel
 clean_wf
theorem zS(T:bH pg)(a:At K mg "touch_of" (top 28)):aU P w K mg pg "touch_of" gH (top 28) ["program", "hand", "seat", "rows", "row", "thing", "value", "part", "entry"]:=by clean_wf
theorem r9(T:bH pg)(a:At K mg "seat_behind" (top 29)):aU P w K mg pg "seat_behind" cq (top 29) ["program", "hand", "seat", "value", "row", "pockets", "held"]:=by
 have z0:(lE ["program", "hand", "seat", "value", "row", "pockets", "held"] ["lock"]).Nodup:=by decide +kernel
 clean_wf
theorem zu(T:bH pg)(a:At K mg "may_come" (top 30)):aU P w K mg pg "may_come" gz (top 30) ["touch", "value"]:=by clean_wf
theorem sS(T:bH pg)(a:At K mg "first_stand" (top 35)):aU P w K mg pg "first_stand" eZ (top 35) ["program", "hands"]:=by
 have z0:(lE ["program", "hands"] ["hand"]).Nodup:=by decide +kernel
 have z1:(lE ["program", "hands"] ["box"]).Nodup:=by decide +kernel
 have z2:(lE ["program", "hands"] ["lock"]).Nodup:=by decide +kernel
 have z3:(lE ["program", "hands"] ["lane"]).Nodup:=by decide +kernel
 have z4:(lE ["program", "hands"] ["door"]).Nodup:=by decide +kernel
 clean_wf
theorem yY(T:bH pg)(a:At K mg "hands_of" (top 36)):aU P w K mg pg "hands_of" gJ (top 36) ["program"]:=by clean_wf
theorem zM(T:bH pg)(a:At K mg "state_of" (top 37)):aU P w K mg pg "state_of" iY (top 37) ["program", "stand", "sort", "name"]:=by clean_wf
theorem aaf(T:bH pg)(a:At K mg "wait_of" (top 38)):aU P w K mg pg "wait_of" cW (top 38) ["program", "stand", "hand", "touch", "holder"]:=by clean_wf
theorem Lz(T:bH pg)(a:At K mg "gone" (top 42)):aU P w K mg pg "gone" qc (top 42) ["program", "stand", "hand", "gift", "touch", "kind", "thing", "sort", "met", "behind"]:=by clean_wf
theorem aae(T:bH pg)(a:At K mg "due_touch" (top 43)):aU P w K mg pg "due_touch" hZ (top 43) ["program", "stand", "hand", "gift", "wait", "touch"]:=by clean_wf
theorem vj(T:bH pg)(a:At K mg "takes_gift" (top 44)):aU P w K mg pg "takes_gift" dQ (top 44) ["touch", "gift"]:=by clean_wf
theorem Bb(T:bH pg)(a:At K mg "meeting" (top 45)):aU P w K mg pg "meeting" cG (top 45) ["touch", "event", "state", "kind", "value"]:=by clean_wf
theorem aa9(T:bH pg)(a:At K mg "with_hand_on" (top 46)):aU P w K mg pg "with_hand_on" dX (top 46) ["program", "stand", "hand", "value", "seat", "counted"]:=by clean_wf
theorem vv(T:bH pg)(a:At K mg "with_state" (top 47)):aU P w K mg pg "with_state" fZ (top 47) ["program", "stand", "sort", "name", "state", "place"]:=by clean_wf
theorem yA(T:bH pg)(a:At K mg "replaced" (top 48)):aU P w K mg pg "replaced" iW (top 48) ["parts", "place", "part"]:=by clean_wf
theorem aaU(T:bH pg)(a:At K mg "walked" (top 51)):aU P w K mg pg "walked" m8 (top 51) ["program", "stand", "run", "here", "touches", "place", "step", "told"]:=by clean_wf
theorem Cu(T:bH pg)(a:At K mg "stepped" (top 52)):aU P w K mg pg "stepped" kq (top 52) ["program", "stand", "place", "step", "refusal"]:=by clean_wf
theorem aaA(T:bH pg)(a:At K mg "tables_of" (top 53)):aU P w K mg pg "tables_of" hV (top 53) ["program", "stand", "run", "touches"]:=by
 have z0:(lE ["program", "stand", "run", "touches"] ["hand"]).Nodup:=by decide +kernel
 clean_wf
theorem zt(T:bH pg)(a:At K mg "looks_of" (top 54)):aU P w K mg pg "looks_of" i6 (top 54) ["touches", "hand"]:=by
 have z0:(lE ["touches", "hand"] ["maker", "look"]).Nodup:=by decide +kernel
 clean_wf
theorem Bu(T:bH pg)(a:At K mg "history" (top 55)):aU P w K mg pg "history" iD (top 55) ["program", "stand", "run", "name", "touches"]:=by
 have z0:(lE ["program", "stand", "run", "name", "touches"] ["sort"]).Nodup:=by decide +kernel
 have z1:(lE ["program", "stand", "run", "name", "touches"] ["touch"]).Nodup:=by decide +kernel
 clean_wf
theorem vg(T:bH pg)(a:At K mg "touches_of" (top 56)):aU P w K mg pg "touches_of" d6 (top 56) ["program", "stand", "run"]:=by clean_wf
theorem sA(T:bH pg)(a:At K mg "with_events" (top 57)):aU P w K mg pg "with_events" eY (top 57) ["stand", "touches", "events"]:=by
 have z0:(lE ["stand", "touches", "events"] ["hand", "look"]).Nodup:=by decide +kernel
 clean_wf
theorem x9(T:bH pg)(a:At K mg "events_by" (top 58)):aU P w K mg pg "events_by" hB (top 58) ["stand", "hands", "counts", "events", "hand"]:=by clean_wf
theorem H5(T:bH pg)(a:At K mg "needs" (top 61)):aU P w K mg pg "needs" pK (top 61) ["program", "stand", "run"]:=by clean_wf
theorem sG(T:bH pg)(a:At K mg "needs_among" (top 62)):aU P w K mg pg "needs_among" fc (top 62) ["touches", "pairs", "place", "touch", "other"]:=by clean_wf
theorem wL(T:bH pg)(a:At K mg "is_needed" (top 63)):aU P w K mg pg "is_needed" bw (top 63) ["touches", "one", "other", "event", "look", "mark", "kinds"]:=by clean_wf
theorem xR(T:bH pg)(a:At K mg "free_from" (top 64)):aU P w K mg pg "free_from" fH (top 64) ["touches", "hand", "lock", "number", "event", "look"]:=by clean_wf
theorem zc(T:bH pg)(a:At K mg "_law_box" (top 66)):aU P w K mg pg "_law_box" gM (top 66) ["_law_script", "_law_k", "_law_cell"]:=by clean_wf
theorem xb(T:bH pg)(a:At K mg "_law_take" (top 67)):aU P w K mg pg "_law_take" fh (top 67) ["_law_box_here", "_law_many", "_law_found", "_law_mixed"]:=by clean_wf
theorem yI(T:bH pg)(a:At K mg "_law_sum" (top 68)):aU P w K mg pg "_law_sum" cU (top 68) ["_law_box_here", "_law_pockets", "_law_deep", "_law_way", "_law_word"]:=by clean_wf
theorem oy(T:bH pg)(a:At K mg "_law_touch_row" (top 69)):aU P w K mg pg "_law_touch_row" bo (top 69) ["_law_box_here", "_law_names", "_law_pockets", "_law_kinds", "_law_kind", "_law_pocket", "_law_sort", "_law_thing"]:=by clean_wf
theorem vZ(T:bH pg)(a:At K mg "_law_rows" (top 70)):aU P w K mg pg "_law_rows" h7 (top 70) ["_law_box_here", "_law_names", "_law_pockets", "_law_kinds", "_law_sort", "_law_more", "_law_many", "_law_rows_here", "_law_k", "_law_way"]:=by clean_wf
theorem rX(T:bH pg)(a:At K mg "_law_program" (top 71)):aU P w K mg pg "_law_program" gP (top 71) ["_law_box_here", "_law_pool", "_law_turn", "_law_names", "_law_sort", "_law_many", "_law_boxes", "_law_hands", "_law_k", "_law_pockets"]:=by
 have z0:(lE ["_law_box_here", "_law_pool", "_law_turn", "_law_names", "_law_sort", "_law_many", "_law_boxes", "_law_hands", "_law_k", "_law_pockets"] ["_law_name"]).Nodup:=by decide +kernel
 clean_wf
theorem vB(T:bH pg)(a:At K mg "_law_worth" (top 72)):aU P w K mg pg "_law_worth" bf (top 72) ["_law_e", "_law_pockets", "_law_one", "_law_other"]:=by clean_wf
theorem sH(T:bH pg)(a:At K mg "_law_is_own" (top 73)):aU P w K mg pg "_law_is_own" cH (top 73) ["_law_row_here", "_law_held"]:=by clean_wf
theorem xh(T:bH pg)(a:At K mg "_law_rest" (top 74)):aU P w K mg pg "_law_rest" fu (top 74) ["_law_rows_here", "_law_at", "_law_pockets", "_law_held", "_law_gone_over", "_law_row_here"]:=by clean_wf
theorem vF(T:bH pg)(a:At K mg "_law_first" (top 75)):aU P w K mg pg "_law_first" jk (top 75) ["_law_program_here", "_law_state", "_law_hand", "_law_pockets", "_law_at"]:=by
 have z0:(lE ["_law_program_here", "_law_state", "_law_hand", "_law_pockets", "_law_at"] ["_law_name"]).Nodup:=by decide +kernel
 have z1:(lE ["_law_program_here", "_law_state", "_law_hand", "_law_pockets", "_law_at"] ["_law_one"]).Nodup:=by decide +kernel
 clean_wf
theorem yv(T:bH pg)(a:At K mg "_law_row" (top 76)):aU P w K mg pg "_law_row" gk (top 76) ["_law_program_here", "_law_state", "_law_hand", "_law_rows_here", "_law_at"]:=by clean_wf
theorem wN(T:bH pg)(a:At K mg "_law_wait" (top 77)):aU P w K mg pg "_law_wait" cj (top 77) ["_law_program_here", "_law_state", "_law_hand", "_law_row_here", "_law_holder"]:=by clean_wf
theorem ug(T:bH pg)(a:At K mg "_law_boxed" (top 78)):aU P w K mg pg "_law_boxed" d8 (top 78) ["_law_program_here", "_law_state", "_law_row_here", "_law_event", "_law_pockets", "_law_value", "_law_mark", "_law_place"]:=by
 have z0:(lE ["_law_program_here", "_law_state", "_law_row_here", "_law_event", "_law_pockets", "_law_value", "_law_mark", "_law_place"] ["_law_one"]).Nodup:=by decide +kernel
 clean_wf
theorem sj(T:bH pg)(a:At K mg "_law_locked" (top 79)):aU P w K mg pg "_law_locked" dj (top 79) ["_law_program_here", "_law_state", "_law_row_here", "_law_event", "_law_held", "_law_place", "_law_mark"]:=by clean_wf
theorem uG(T:bH pg)(a:At K mg "_law_laned" (top 80)):aU P w K mg pg "_law_laned" dO (top 80) ["_law_program_here", "_law_state", "_law_row_here", "_law_pockets", "_law_place", "_law_sent", "_law_fetched", "_law_letters", "_law_value"]:=by clean_wf
theorem Ct(T:bH pg)(a:At K mg "_law_go" (top 81)):aU P w K mg pg "_law_go" oD (top 81) ["_law_program_here", "_law_state", "_law_hand", "_law_gift_here", "_law_at", "_law_pockets", "_law_held", "_law_row_here", "_law_event", "_law_look", "_law_place"]:=by clean_wf
theorem yp(T:bH pg)(a:At K mg "_law_can" (top 82)):aU P w K mg pg "_law_can" jr (top 82) ["_law_program_here", "_law_state"]:=by
 have z0:(lE ["_law_program_here", "_law_state"] ["_law_hand"]).Nodup:=by decide +kernel
 clean_wf
theorem w8(T:bH pg)(a:At K mg "_law_gift" (top 83)):aU P w K mg pg "_law_gift" dI (top 83) ["_law_box_here", "_law_row_here", "_law_most"]:=by clean_wf
theorem aaE(T:bH pg)(a:At K mg "_law_drawn" (top 84)):aU P w K mg pg "_law_drawn" jq (top 84) ["_law_program_here", "_law_box_here", "_law_state", "_law_most", "_law_run", "_law_looks", "_law_can_here", "_law_hand", "_law_gift_here"]:=by clean_wf
theorem sY(T:bH pg)(a:At K mg "_law_inside" (top 85)):aU P w K mg pg "_law_inside" cI (top 85) ["_law_counts", "_law_many", "_law_event"]:=by clean_wf
theorem pF(T:bH pg)(a:At K mg "_law_is_piece" (top 86)):aU P w K mg pg "_law_is_piece" dw (top 86) ["_law_program_here", "_law_stand", "_law_whole", "_law_piece", "_law_counts", "_law_many", "_law_due"]:=by
 have z0:(lE ["_law_program_here", "_law_stand", "_law_whole", "_law_piece", "_law_counts", "_law_many", "_law_due"] ["_law_hand"]).Nodup:=by decide +kernel
 have z1:(lE (lE ["_law_program_here", "_law_stand", "_law_whole", "_law_piece", "_law_counts", "_law_many", "_law_due"] ["_law_hand"]) ["_law_one"]).Nodup:=by decide +kernel
 have z2:(lE ["_law_program_here", "_law_stand", "_law_whole", "_law_piece", "_law_counts", "_law_many", "_law_due"] ["_law_pair"]).Nodup:=by decide +kernel
 clean_wf
theorem IV(T:bH pg)(a:At K mg "law" (top 87)):aU P w K mg pg "law" EI (top 87) ["_law_script", "_law_box_here", "_law_program_here", "_law_run", "_law_places", "_law_pieces", "_law_first_here", "_law_end", "_law_touches", "_law_whole", "_law_names", "_law_some", "_law_stand", "_law_found", "_law_tables", "_law_told", "_law_piece", "_law_more"]:=by
 have z0:(lE ["_law_script", "_law_box_here", "_law_program_here", "_law_run", "_law_places", "_law_pieces", "_law_first_here", "_law_end", "_law_touches", "_law_whole", "_law_names", "_law_some", "_law_stand", "_law_found", "_law_tables", "_law_told", "_law_piece", "_law_more"] ["_law_one"]).Nodup:=by decide +kernel
 have z1:(lE ["_law_script", "_law_box_here", "_law_program_here", "_law_run", "_law_places", "_law_pieces", "_law_first_here", "_law_end", "_law_touches", "_law_whole", "_law_names", "_law_some", "_law_stand", "_law_found", "_law_tables", "_law_told", "_law_piece", "_law_more"] ["_law_hand"]).Nodup:=by decide +kernel
 have z2:(lE ["_law_script", "_law_box_here", "_law_program_here", "_law_run", "_law_places", "_law_pieces", "_law_first_here", "_law_end", "_law_touches", "_law_whole", "_law_names", "_law_some", "_law_stand", "_law_found", "_law_tables", "_law_told", "_law_piece", "_law_more"] ["_law_name"]).Nodup:=by decide +kernel
 have z3:(lE ["_law_script", "_law_box_here", "_law_program_here", "_law_run", "_law_places", "_law_pieces", "_law_first_here", "_law_end", "_law_touches", "_law_whole", "_law_names", "_law_some", "_law_stand", "_law_found", "_law_tables", "_law_told", "_law_piece", "_law_more"] ["_law_k"]).Nodup:=by decide +kernel
 clean_wf
end
end _K
end
section
open PySem _L _P
def evdL{k:Lean.SyntaxNodeKinds}(u v:Lean.Syntax):List String→List (Lean.TSyntax k)
 | []=>[]
 | w::r=>⟨if w.startsWith "↓" then u.setArg (u.getNumArgs-1) (Lean.mkIdent (w.drop 1).toName) else v.setArg (v.getNumArgs-1) (Lean.mkIdent w.toName)⟩::evdL u v r
local macro_rules
 | `(tactic| simp? [$ls,*])=> `(tactic| simp? (disch:=omega) only[$ls,*])
 | `(tactic| simp? (disch:= $t) only[$ls,*])=> do
  let u ← `(Lean.Parser.Tactic.simpLemma| ↓x)
  let v ← `(Lean.Parser.Tactic.simpLemma| x)
  let xs ← pure (evdL u v ("↓Gi aaH ↓Js ↓Og ↓PA N3 ↓aar Kw Ly ↓Oz LV ↓IM aaJ Lm ↓OP aaN K6 MN ↓aaw LD ↓Pj ↓Mi GL ↓Qw Mt ↓Lu HA Hz IH ↓N8 MJ Ln LW ↓MW Hg ↓NN Ko JN Lq KA ↓L0 ↓FT aaC Es DY CT ↓Nb HV FL F9 abg ↓Hx C4 ↓Il ↓FG ↓Et Cw aag ↓KY H0 ↓MQ Ga yJ ↓F7 ↓aaG ↓QR ↓aaD KI aas H4 IA G8 ↓D9 Ao Hj Hn GX ↓Oq ↓FK Ex ↓Lp GB ↓KL Iu G6 GQ HE ↓ML Ic aao Mp Ja Kz M1 aad J0 NY Kk JR ↓MD Hi Hl aaO LM ↓C6 AR E2 ↓Mc LR Mr jI lK LX ↓DA AD ↓Lj HY E7 aa2 ↓NT Lf Mo OE LN Ge Gu HQ Hp Lb cK EU lM G0 oZ List.getElem?_cons_zero List.getElem?_cons_succ List.set_cons_zero List.set_cons_succ List.map_cons List.map_nil List.cons_append List.nil_append List.replicate_succ List.replicate_zero List.length_cons List.length_nil HB FX iT It B4 Hh Hc Mw KO Mh KR F3 Al Hq Ip kI ig xO Cd uk Nd oM QM ph Px Hb AN Jr Ky len_T Fh Oy ↓aab GS CL Gn aaK EV OF Ku pA Mn MK ↓Dt aT aP iG zL jb gB qP lx ↓N1 LO aaQ ↓OQ ↓aaa JK Cy N7 Jl List.append_assoc List.length_append yU Ac in_K ↓Pq KV OX NV Jz aaj aD decide_true decide_false Bool.not_true Bool.not_false if_true if_false reduceIte ite_self Bool.false_eq_true String.reduceEq String.reduceNe reduceCtorEq Int.reduceEq Int.reduceNe Int.reduceLT Int.reduceLE Int.reduceSub Int.reduceAdd Int.reduceMul Int.reduceToNat Int.reduceNeg".splitOn " "))
  let ys : Lean.TSyntaxArray [`Lean.Parser.Tactic.simpStar,`Lean.Parser.Tactic.simpErase,`Lean.Parser.Tactic.simpLemma] := ls.getElems ++ xs.toArray
  `(tactic| simp (disch:= $t) only [$ys,*])
section
set_option maxHeartbeats 1000000
namespace _K
inductive Bo where | add | sub | mul | less | same
 deriving DecidableEq
noncomputable def Bo.w:Bo->Str
 | .add=> "add" | .sub=> "sub" | .mul=> "mul" | .less=> "less" | .same=> "same"
noncomputable def Bo.f:Bo->Int->Int->Int
 | .add,a,b=>(a+b) % 1000
 | .sub,a,b=>(a - b) % 1000
 | .mul,a,b=>a*b % 1000
 | .less,a,b=>if a < b then 1 else 0
 | .same,a,b=>if a=b then 1 else 0
inductive Sm where
 | num (n:Int) | of (x:Str) | un (a:Sm) | bin (o:Bo) (a b:Sm)
noncomputable def lU:Sm->PV
 | .num n=> .tup [.str "num",.int n]
 | .of x=> .tup [.str "of",.str x]
 | .un a=> .tup [.str "not",lU a]
 | .bin o a b=> .tup [.str o.w,lU a,lU b]
noncomputable def Sm.dp:Sm->Nat
 | .num _=>1 | .of _=>1 | .un a=>a.dp+1 | .bin _ a b=>max a.dp b.dp+1
def Sm.ok:Sm->Prop
 | .num n=>0<=n/\n<=999 | .of _=>True | .un a=>a.ok | .bin _ a b=>a.ok/\b.ok
noncomputable def Sm.val(f:Str->Int):Sm->Int
 | .num n=>n
 | .of x=>f x
 | .un a=>if a.val f=0 then 1 else 0
 | .bin o a b=>o.f (a.val f) (b.val f)
theorem Sm.nY(hf : ∀ x, 0 <= f x /\ f x <= 999) : ∀ e : Sm, e.ok -> 0 <= e.val f /\ e.val f <= 999
  | .num n, h => h
  | .of x, _ => hf x
  | .un a, _ => by unfold Sm.val; split <;> omega
  | .bin o a b, _ => by
    unfold Sm.val Bo.f;cases o <;> simp only <;> first
      | (split <;> omega)
      | exact ⟨Vx _ (by decide), by omega⟩
      | exact ⟨Vx _ (by decide), by omega⟩
      | exact ⟨Vx _ (by decide), by omega⟩
theorem fJ: ∀ e ,(lU e).flat=true
 | .num n=>rfl
 | .of x=>rfl
 | .un a=>by simp[lU,PV.flat,PV.bh,fJ a]
 | .bin o a b=>by simp[lU,PV.flat,PV.bh,fJ a,fJ b]
abbrev Pk:=List (Str × Int)
noncomputable def An(ps:Pk):PV:= .tup (ps.map eW)
noncomputable def fP:Pk->Str->Int
 | [],_=>0
 | q::r,x=>if q.1=x then q.2 else fP r x
structure Rx(ps:Pk):Prop where
 Po:(ps.map (·.1)).Pairwise kE
 mem: ∀ q∈ps,1<=q.2/\q.2<=999
 len:ps.length<=20
theorem xX: ∀{ps},(∀ q∈ps,1<=q.2/\q.2<=999)-> ∀ x,0<=fP ps x/\fP ps x<=999
 | [],_,x=>by simp[fP]
 | q::r,h,x=>by
  unfold fP;split
  . have:=h q So;omega
  . exact xX (λz hz=>h z (Sk _ hz)) x
theorem j8: ∀(ps:Pk),PV.bh (ps.map eW)=true
 | []=>rfl
 | q::r=>by simp[PV.bh,eW,PV.flat,j8 r]
noncomputable def gA(ps:Pk):List (Key × PV):=ps.map λq=>(.inr q.1,.int q.2)
theorem xH: ∀ ps,k8 (ps.map eW)=fI (gA ps)
 | []=>rfl
 | q::r=>by simp[k8,eW,pairP?,jT,xH r,gA]
theorem yk: ∀ ps x,(c9 (gA ps) (.inr x)).getD (.int 0)= .int (fP ps x)
 | [],x=>rfl
 | q::r,x=>by
  unfold fP gA;rw[R9];by_cases e:q.1=x
  . rw[if_pos e,e,AN];rfl
  . rw[if_neg e,Ds (by simpa using e)];exact yk r x
theorem H7: ∀{kvs k v},k ∉ kvs.map (λkv:Key × PV=>kv.1)->jm kvs k v=kvs++[(k,v)]:=by
 intro kvs k v h;unfold jm;rw[if_neg];simp only[Gz,decide_eq_true_eq,not_exists,not_and];exact λx hx e=>h (SS.mpr ⟨x,hx,e⟩)
theorem ya: ∀ more acc,((acc++more).map (λkv:Key × PV=>kv.1)).Nodup->cE acc more=acc++more
 | [],acc,_=>by simp[cE]
 | p::r,acc,h=>by
  have h2:p.1 ∉ acc.map (λkv:Key × PV=>kv.1):=by
   rw[SH,U5] at h;intro m;exact h.2.2 p.1 m p.1 (by simp) rfl
  show cE (jm acc p.1 p.2) r=_;rw [H7 h2,ya r _ (by simpa using h)];simp
theorem EZ(nd : (ps.map (·.1)).Nodup) : cE [] (gA ps) = gA ps := by
  rw [ya _ _ ?_]; · rfl
  have e : ([] ++ gA ps).map (λkv : Key × PV => kv.1) = (ps.map (·.1)).map (V1) := by unfold gA; rw [SG, Tf, Tf]; rfl
  rw [e];exact List.Pairwise.map _ (λa b z e => z (B1 e)) nd
section
variable {pg:Tb} (T:bH pg)
include T
theorem O6 k (o:Bo) a b h (ha:0<=a/\a<=999):run pg (k+1) "joined_worth" [.str o.w,.int a,.int b] h= .ok (.int (o.f a b)) h:=by
 rw[run_eq T.qo rfl];cases o<;>simp? [dZ,jG,Bo.w,Bo.f]
 all_goals split<;>rfl
theorem ka h (nd:(ps.map (·.1)).Nodup) (hm: ∀ q∈ps,1<=q.2/\q.2<=999) (hl:ps.length<=1000): ∀ e k,e.ok->e.dp<=k->run pg (k+1) "worth" [lU e,An ps] h= .ok (.int (e.val (fP ps))) h
 | .num n,k,ho,hk=>by
  rw[run_eq T.pH rfl];simp? [i7,mX,lU,Sm.val]
 | .of x,k,ho,hk=>by
  rw[run_eq T.pH rfl];have hz:(ps.map eW).length < 16777216:=by rw[xn];omega
  simp? [i7,mX,lU,An,xH,EZ nd,yk];exact bj rfl
 | .un a,k,ho,hk=>by
  obtain⟨k,rfl⟩: ∃ j,k=j+1:=⟨k - 1,by unfold Sm.dp at hk;omega⟩
  have ih:=ka h nd hm hl a k ho (by unfold Sm.dp at hk;omega);rw[run_eq T.pH rfl];simp? [i7,mX,lU,Sm.val,ih];split<;>rfl
 | .bin o a b,k,ho,hk=>by
  obtain⟨k,rfl⟩: ∃ j,k=j+1:=⟨k - 1,by unfold Sm.dp at hk;omega⟩
  have ih1:=ka h nd hm hl a k ho.1 (by unfold Sm.dp at hk;omega);have ih2:=ka h nd hm hl b k ho.2 (by unfold Sm.dp at hk;omega);have ij:=O6 T k o _ (b.val (fP ps)) h (Sm.nY (xX hm) a ho.1);rw[run_eq T.pH rfl];cases o<;>(simp only[Bo.w] at ij;simp? [i7,mX,lU,Sm.val,ih1,ih2,ij,Bo.w])
end
theorem rN{os:Pk}(e:h[n]?=fI (.lst (os.map eW)))(hl:os.length < 64)(nd:(os.map (·.1)).Nodup):dN [.ref n] h= .ok (.ref h.length) (h++[.lst ((qX os).map eW)]):=by
 have hi:itemsOf h (.ref n)=fI (os.map eW):=by simp[itemsOf,br,e]
 show pO [.ref n] h=_;unfold pO;simp only[hi];cases os with
 | nil=>simp[eG,eA,qX]
 | cons q r =>
  have e1:eG ((q::r).map eW)=ox:=rfl
  rw[e1]
  simp only[xt]
  rw[if_pos ⟨hl,nd⟩]
noncomputable def lay(ps:Pk)(x:Str)(v:Int):Pk:=qX (ps.filter (λq=> !decide (q.1=x))++if v=0 then[] else[(x,v)])
theorem jh(ps:Pk):(qX ps).Perm ps:=UD ps _
theorem B6{ps:Pk}(nd:(ps.map (·.1)).Nodup):((qX ps).map (·.1)).Pairwise kE:=by
 have h1:=Ul (λa b c=>iB a.1 b.1 c.1) (λa b=>by simpa using ko a.1 b.1) ps;have h2:=((jh ps).map _).nodup_iff.mpr nd;rw[VB];rw[List.nodup_iff_pairwise_ne,VB] at h2;refine h1.imp₂ (λa b z1 z2=>?_) h2;rcases nU z2 with z | z
 . exact z
 . unfold rZ at z1;simp[z] at z1
theorem zK(nd:(ps.map (·.1)).Nodup): ∀ q∈ps,fP ps q.1=q.2:=by
 induction ps with
 | nil=>simp_all
 | cons p r ih =>
  intro q m
  rw[R9] at nd;rw[U1] at nd
  unfold fP
  rcases Sd.mp m with e | m
  . simp_all
  . rw[if_neg (λz=>nd.1 (by rw[z];exact SS.mpr ⟨q,m,rfl⟩))];exact ih nd.2 q m
theorem uA(h:x ∉ ps.map (·.1)):fP ps x=0:=by
 induction ps with
 | nil=>rfl
 | cons p r ih =>
  rw[R9,Sd,not_or] at h
  unfold fP
  rw[if_neg (λz=>h.1 z.symm)]
  exact ih h.2
theorem abb(p:ps.Perm qs)(nd:(qs.map (·.1)).Nodup) x:fP ps x=fP qs x:=by
 by_cases hx:x∈qs.map (·.1)
 . obtain⟨q,m,rfl⟩:=SS.mp hx;rw[zK nd q m,zK ((p.map (·.1)).nodup_iff.mpr nd) q (p.mem_iff.mpr m)]
 . rw[uA hx,uA λz=>hx ((p.map (·.1)).mem_iff.mp z)]
theorem zV{ps:Pk}(nd:(ps.map (·.1)).Nodup) x (v:Int):((ps.filter (λq=> !decide (q.1=x))++if v=0 then[] else[(x,v)]).map (·.1)).Nodup:=by
 rw[SH];refine U5.mpr ⟨(List.Sublist.map _ W9).nodup nd,?_,λa ha b hb e=>?_⟩
 . split<;>simp
 . simp_all
theorem vH(nd:(ps.map (·.1)).Nodup) x v y:fP (lay ps x v) y=if y=x then v else fP ps y:=by
 rw[lay,abb (jh _) (zV nd x v)];have app: ∀ l m y,fP (l++m) y=if y∈l.map (·.1) then fP l y else fP m y:=by
  intro l m y
  induction l with
  | nil=>rfl
  | cons q r ih =>
   rw[TA,fP,fP,ih]
   by_cases e:q.1=y
   . rw[if_pos e,if_pos e,if_pos (by rw[R9,e];exact So)]
   . have e': ¬ y=q.1:=λz=>e z.symm;rw[if_neg e,if_neg e];simp only[R9,Sd,e',false_or]
 have fil: ∀ l ,¬ y=x->fP (l.filter λq=> !decide (q.1=x)) y=fP l y:=by
  intro l ne
  induction l with
  | nil=>rfl
  | cons q r ih =>
   by_cases e:q.1=x
   . rw[SR (by simp[e]),fP,if_neg (λz=>ne (z.symm.trans e)),ih]
   . rw[SJ (by simp[e]),fP,fP,ih]
 rw[app];by_cases e:y=x
 . rw[if_neg]
   . split
     . rename_i z;rw[z];rfl
     . rw[fP,if_pos e.symm]
   . intro z;obtain⟨q,m,rfl⟩:=SS.mp z;have:=(Uu.mp m).2;simp[e] at this
 . rw[fil ps e];split
   . rfl
   . rename_i z;have h0:fP ps y=0:=by
      rw[<- fil ps e];exact uA z
     rw[h0];split
     . rfl
     . rw[fP,if_neg (λz=>e z.symm)];rfl
structure uP(L:List Str)(ps:Pk):Prop where
 Po:(ps.map (·.1)).Pairwise kE
 mem: ∀ q∈ps,q.1∈L/\1<=q.2/\q.2<=999
theorem uP.nd(h:uP L ps):(ps.map (·.1)).Nodup:=h.Po.imp λ{a b} z e=>by subst e;exact lI _ z
theorem uP.len(h:uP L ps):ps.length<=L.length:=by
 have:=Vi h.nd (λx hx=>by obtain⟨q,hq,rfl⟩:=SS.mp hx;exact(h.mem q hq).1);simpa using this
theorem uP.nil:uP L []:=⟨.nil,λq m=>by cases m⟩
theorem yw(h:uP L ps)(hx:x∈L)(h0:0<=v)(h9:v<=999):uP L (lay ps x v):=by
 refine⟨B6 (zV h.nd x v),λq m=>?_⟩;rcases Ti.mp ((jh _).mem_iff.mp m) with m | m
 . exact h.mem q (Uu.mp m).1
 . split at m
   . cases m
   . rw[Sf.mp m];exact⟨hx,show 1<=v by omega,h9⟩
theorem oh x: ∀ ps:Pk,(ps.filterMap λq=>if q.1=x then ox else fI (eW q))=(ps.filter (λq=> !decide (q.1=x))).map eW
 | []=>rfl
 | q::r=>by
  by_cases z:q.1=x
  . rw[U7 (by simp[z]),SR (by simp[z]),oh x r]
  . rw[U8 (by rw[if_neg z]),SJ (by simp[z]),R9,oh x r]
section
variable{pg:Tb}(T:bH pg)
include T
theorem Ar k h (nd:(ps.map (·.1)).Nodup) x v (hl:(lay ps x v).length<=20) (hp:ps.length<=1000):run pg (k+1) "laid" [An ps,.str x,.int v] h= .ok (An (lay ps x v)) h:=by
 rw[run_eq T.J4 rfl];have e1:dU ⟨ox,ps.map eW⟩ (aM 1 (gN 4) (aF (ao kR (eX 4 0) (aa 1))) (aa 4) (run pg k) [fI (.tup (ps.map eW)),fI (.str x),fI (.int v),ox]) (ps.map eW) [] h= .ok ([]++ps.filterMap λq=>if q.1=x then ox else fI (eW q)) h:=by
  refine cM rfl ps [] (λq m=>?_) (by simp;omega);simp? [eW];by_cases z:q.1=x<;>simp[z]
 rw[oh] at e1;have hl':(ps.filter (λq=> !decide (q.1=x))++if v=0 then[] else[(x,v)]).length<=20:=by rw[<- (jh _).length_eq];exact hl
 have nd':=zV nd x v;have hz:((ps.filter (λq=> !decide (q.1=x))).map eW).length < 16777216:=by
  grind
 by_cases hv:v=0
 . subst hv;rw[if_pos rfl,SA] at hl' nd';have s1:=rN (h:=h++[.lst _]) aT (Vq hl' (by decide)) nd';simp? [rS,yS,An,e1,s1];rw[bj (v:= .tup _) (j8 _),lay,if_pos rfl,SA]
 . rw[if_neg hv] at hl' nd';have s1:=rN (h:=h++[.lst _]) aT (Vq hl' (by decide)) nd';rw[SH] at s1;simp? [rS,yS,An,e1,hv];rw[show List.map eW [(x,v)]=[PV.tup _] from rfl] at s1;simp? [s1];rw[bj (v:= .tup _) (j8 _),lay,if_neg hv]
end
inductive Rw where
 | let_ (x:Str) (e:Sm) | leap (k:Int) (e:Sm) | take (l:Str) | free (l:Str) | get (x b:Str) | put (b:Str) (e:Sm)
 | send (l:Str) (e:Sm) | fetch (x l:Str) | say (d:Str) (e:Sm) | clock (x:Str) | lot (x:Str) (n:Int) | hear (x d:Str)
noncomputable def Rw.w:Rw->Str
 | .let_ _ _=> "let" | .leap _ _=> "leap" | .take _=> "take" | .free _=> "free" | .get _ _=> "get" | .put _ _=> "put"
 | .send _ _=> "send" | .fetch _ _=> "fetch" | .say _ _=> "say" | .clock _=> "clock" | .lot _ _=> "lot" | .hear _ _=> "hear"
noncomputable def Rw.ps:Rw->List PV
 | .let_ x e=>[.str x,lU e] | .leap k e=>[.int k,lU e] | .take l=>[.str l] | .free l=>[.str l] | .get x b=>[.str x,.str b] | .put b e=>[.str b,lU e]
 | .send l e=>[.str l,lU e] | .fetch x l=>[.str x,.str l] | .say d e=>[.str d,lU e] | .clock x=>[.str x] | .lot x n=>[.str x,.int n] | .hear x d=>[.str x,.str d]
noncomputable def bO(r:Rw):PV:= .tup (.str r.w::r.ps)
noncomputable def bZ(rs:List Rw):PV:= .tup (rs.map bO)
structure fL where
 row:Nat
 ps:Pk
 held:List Str
noncomputable def kO(hs:List Str):PV:= .tup (hs.map PV.str)
noncomputable def aO(s:fL):PV:= .tup [.int s.row,An s.ps,kO s.held]
noncomputable def own(held:List Str):Rw->Bool
 | .take l=>decide (l∈held)
 | .free l=> !decide (l∈held)
 | .let_ _ _=>true
 | .leap _ _=>true
 | _=>false
def jY(e:Sm):=e.ok/\e.dp<=7
def fF(L:List Str)(n:Nat):Rw->Prop
 | .let_ x e=>x∈L/\jY e
 | .leap k e=>0<=k/\k<=n/\jY e
 | .put _ e=>jY e
 | .send _ e=>jY e
 | .say _ e=>jY e
 | .get x _=>x∈L
 | .fetch x _=>x∈L
 | .clock x=>x∈L
 | .lot x m=>x∈L/\2<=m/\m<=1000
 | .hear x _=>x∈L
 | _=>True
noncomputable def behind(s:fL):Rw->fL
 | .let_ x e=>⟨s.row+1,lay s.ps x (e.val (fP s.ps)),s.held⟩
 | .leap k e=>if e.val (fP s.ps)=0 then⟨s.row+1,s.ps,s.held⟩ else⟨k.toNat,s.ps,s.held⟩
 | _=>⟨s.row+1,s.ps,s.held⟩
structure dE(L:List Str)(rs:List Rw)(s:fL):Prop where
 pk:uP L s.ps
 le:s.row<=rs.length
theorem ti: ∀ hs:List Str,PV.bh (hs.map PV.str)=true
 | []=>rfl
 | x::r=>by rw[R9,PV.bh,ti r];rfl
theorem kY s:(aO s).flat=true:=by
 simp[aO,PV.flat,PV.bh,An,j8,kO,ti]
theorem CZ r:(bO r).flat=true:=by
 cases r<;>simp[bO,Rw.ps,PV.flat,PV.bh,fJ]
theorem oK: ∀ rs:List Rw,PV.bh (rs.map bO)=true
 | []=>rfl
 | x::r=>by rw[R9,PV.bh,oK r,CZ];rfl
noncomputable def bC(rs:List Rw)(s:fL):Bool:=match rs[s.row]? with
 | none=>true
 | some r=> !own s.held r
noncomputable def bq rs 
 | 0,s=>if bC rs s then s else⟨rs.length,s.ps,s.held⟩
 | n+1,s=>if bC rs s then s else match rs[s.row]? with
  | none=>s
  | some r=>bq rs n (behind s r)
theorem ke(h:dE L rs s)(hr:fF L rs.length r)(e:rs[s.row]?=fI r):dE L rs (behind s r):=by
 have hlt:=(RY.mp e).1;cases r with
 | let_ x e0 =>
  have hv:=Sm.nY (xX λq m=>(h.pk.mem q m).2) e0 hr.2.1
  exact⟨yw h.pk hr.1 hv.1 hv.2,hlt⟩
 | leap j e0 =>
  show dE L rs (if e0.val _=0 then⟨s.row+1,s.ps,s.held⟩ else⟨j.toNat,s.ps,s.held⟩)
  split
  . exact ⟨h.pk,hlt⟩
  . exact ⟨h.pk,by have:=hr.2.1;show Xf _<=rs.length;omega⟩
 | _=>exact ⟨h.pk,hlt⟩
theorem qR(hr : ∀ r ∈ rs, fF L rs.length r) : ∀ n s, dE L rs s -> dE L rs (bq rs n s)
  | 0, s, h => by unfold bq; split; · exact h
                  . exact ⟨h.pk, Nat.le_refl _⟩
  | n + 1, s, h => by
    unfold bq; split
    . exact h
    . split
      . exact h
      . rename_i r e; exact qR hr n _ (ke h (hr r (Se e)) e)
theorem iJ{rs:List Rw}{s:fL}(e:rs[s.row]?=fI r):fK (rs.map bO) (s.row)=fI (bO r):=_P.dS rfl (by simp_all)
section
variable{pg:Tb}(T:bH pg)
include T
theorem Ma k h r held:run pg (k+1) "is_own_row" [bO r,kO held] h= .ok (.bl (own held r)) h:=by
 rw[run_eq T.vJ rfl];cases r<;>simp? [fV,mJ,bO,Rw.w,Rw.ps,kO,own]
theorem B7 k h (hL:L.length<=20) (hs:dE L rs s) (hr:fF L rs.length r) (hrow:rs[s.row]?=fI r):run pg (k+9) "behind_own_row" [bO r,aO s] h= .ok (aO (behind s r)) h:=by
 have nd:=hs.pk.nd;have hm:=λq m=>(hs.pk.mem q m).2;have hl:=hs.pk.len;have w: ∀ e:Sm,jY e->run pg _ _ _ h= .ok _ h:=λe he=>ka T h nd hm (by omega) e (k+7) he.1 (by have:=he.2;omega);rw[run_eq T.oz rfl];cases r with
 | let_ x e =>
  have hb:=(ke hs hr hrow).pk.len
  have l1:=Ar T (k+7) h nd x _ (Sx hb hL) (by omega)
  simp? [bU,cX,bO,Rw.w,Rw.ps,aO,w e hr.2,l1]
  rfl
 | leap j e =>
  simp? [bU,cX,bO,Rw.w,Rw.ps,aO,behind,w e hr.2.2]
  by_cases z:e.val (fP s.ps)=0
  . simp_all
  . have:((j.toNat))=j:=by have:=hr.1;omega
    simp only[z,if_false,this]
 | _ =>
  simp? [bU,cX,bO,Rw.w,Rw.ps,aO,behind]
  rfl
theorem mG k h (hs:s.row<=rs.length):run pg (k+2) "is_rested" [bZ rs,aO s] h= .ok (.bl (bC rs s)) h:=by
 rw[run_eq T.wt rfl];cases e:rs[s.row]? with
 | none =>
  have:s.row=rs.length:=by grind
  have r1:bC rs s=true:=by unfold bC;rw[e]
  simp? [fq,j9,bZ,aO,r1,this,xn]
 | some r =>
  have hlt:=(RY.mp e).1
  have ne: ¬ (s.row)=(rs.length:Int):=by omega
  have ix:=jX (h:=h) (iJ e)
  have o1:=Ma T k h r s.held
  simp? [fq,j9,bZ,aO,bC,e,ne,ix,o1,xn]
def og(p:PV) j rs:= ∃ a b c d hs nm,p= .tup [a,b,c,d,.tup hs]/\fK hs j=fI (.tup [nm,bZ rs])
theorem lV k h (hp:og p j rs):run pg (k+1) "rows_of" [p,.int j] h= .ok (bZ rs) h:=by
 obtain⟨a,b,c,d,hs,nm,rfl,e⟩:=hp;rw[run_eq T.BL rfl];simp? [kh,tq,jX e]
theorem iK k h (hL:L.length<=20) (hp:og p j rs) (hr: ∀ r∈rs,fF L rs.length r) (hs:dE L rs s):run pg (k+10) "rested" [p,.int j,aO s] h= .ok (aO (bq rs 200 s)) h:=by
 have rest: ∀ xs xs0 s0 s tv,dE L rs s ->
   ((bK ⟨ox,xs0⟩ (aW (gN 5) (ag (bS (aF (ai "is_rested" (a2 (aa 3) (aa 4)))) (aA (aa 4)) cD) (ak (ai "behind_own_row" (ae (ao aE (aa 3) (eX 4 0)) (a1 (aa 4)))) (gN 4))) (run pg (k+9))) xs
    [fI p,fI (.int j),fI (aO s0),fI (bZ rs),fI (aO s),tv] h).bind
    (Cj (ag (bS (aF (ai "is_rested" (a2 (aa 3) (aa 4)))) (aA (aa 4)) cD) (aA (aw (ae (eB bG (a1 (aa 3))) (a2 (eX 4 1) (eX 4 2)))))) (run pg (k+9))))= .ok (.rt (aO (bq rs xs.length s))) h:=by
  intro xs xs0 s0
  induction xs with
  | nil =>
   intro s tv hs
   have q:=mG T (k+7) h hs.le
   simp? [jy,bq,q]
   cases bC rs s<;>simp? [aO,bZ,xn]
  | cons x xs ih =>
   intro s tv hs
   have q:=mG T (k+7) h hs.le
   rw[fN]
   simp? [bq,q]
   cases e:rs[s.row]? with
   | none =>
    have r1:bC rs s=true:=by unfold bC;rw[e]
    simp? [r1,HL]
   | some r =>
    cases r1:bC rs s with
    | true=>rfl
    | false =>
     have hm:=hr r (Se e)
     have ix:=jX (h:=h) (iJ e)
     have be:=B7 T k h hL hs hm e
     have i0:aE (aO s) (.int 0) h= .ok _ h:=rfl
     have ix':aE (bZ rs) _ h= .ok _ h:=ix
     simp? [i0,ix',be,bL,ih _ _ (ke hs hm e)]
 rw[run_eq T.Eb rfl];have ro:=lV T (k+8) h hp;simp? [mR,wo,ro];have hh:=rest (aJ 0 200) (aJ 0 200) s s ox hs;have len:(aJ 0 200).length=200:=rfl;rw[len] at hh;exact(congrArg _ hh).trans (by rw[lM,oZ])
end
section
variable{pg:Tb}(T:bH pg)
include T
theorem sW k h (hL:L.length<=20) (hp:og p j rs) (hr: ∀ r∈rs,fF L rs.length r):run pg (k+11) "first_seat" [p,.int j] h= .ok (aO (bq rs 200 ⟨0,[],[]⟩)) h:=by
 have:=iK T k h hL hp hr (s:=⟨0,[],[]⟩) ⟨.nil,SX _⟩;rw[run_eq T.vx rfl];have e:PV.tup [.int 0,.tup [],.tup []]=aO ⟨0,[],[]⟩:=rfl;simp? [fU,mV,e,this]
end
noncomputable def Rw.gn:Rw->Option Str
 | .get x _=>fI x | .fetch x _=>fI x | .clock x=>fI x | .lot x _=>fI x | .hear x _=>fI x
 | _=>ox
noncomputable def Rw.sum:Rw->Option Sm
 | .let_ _ e=>fI e | .leap _ e=>fI e | .put _ e=>fI e | .send _ e=>fI e | .say _ e=>fI e
 | _=>ox
theorem fF.sum(h:fF L n r)(q:r.sum=fI e):jY e:=by
 cases r<;>cases q
 . exact h.2
 . exact h.2.2
 . exact h
 . exact h
 . exact h
noncomputable def PV.num:PV->Int
 | .int i=>i
 | _=>0
noncomputable def after(s:fL)(v:PV):Rw->fL
 | .get x _=>⟨s.row+1,lay s.ps x (PV.num v),s.held⟩
 | .fetch x _=>⟨s.row+1,lay s.ps x (PV.num v),s.held⟩
 | .clock x=>⟨s.row+1,lay s.ps x (PV.num v),s.held⟩
 | .lot x _=>⟨s.row+1,lay s.ps x (PV.num v),s.held⟩
 | .hear x _=>⟨s.row+1,lay s.ps x (PV.num v),s.held⟩
 | .take l=>⟨s.row+1,s.ps,eA (s.held++[l])⟩
 | .free l=>⟨s.row+1,s.ps,s.held.filter λz=> !decide (z=l)⟩
 | _=>⟨s.row+1,s.ps,s.held⟩
noncomputable def bY(s:fL):Rw->PV
 | .let_ _ e=> .tup [.str "let",.str "",.int (e.val (fP s.ps))]
 | .leap k e=> .tup [.str "leap",.int k,.int (e.val (fP s.ps))]
 | .take l=> .tup [.str "take",.str l,.non]
 | .free l=> .tup [.str "free",.str l,.non]
 | .get _ b=> .tup [.str "get",.str b,.non]
 | .put b e=> .tup [.str "put",.str b,.int (e.val (fP s.ps))]
 | .send l e=> .tup [.str "send",.str l,.int (e.val (fP s.ps))]
 | .fetch _ l=> .tup [.str "fetch",.str l,.non]
 | .say d e=> .tup [.str "say",.str d,.int (e.val (fP s.ps))]
 | .clock _=> .tup [.str "clock",.str "",.non]
 | .lot _ n=> .tup [.str "lot",.str "",.int n]
 | .hear _ d=> .tup [.str "hear",.str d,.non]
noncomputable def qQ(rs:List Rw)(s:fL):PV:=match rs[s.row]? with
 | none=> .non
 | some r=>bY s r
theorem dK: ∀ ss ,eG (ss.map PV.str)=fI ss
 | []=>rfl
 | x::r=>by rw[R9,eG,dK r];rfl
theorem zw(hl:ss.length < 64):dN [.tup (ss.map PV.str)] h= .ok (.ref h.length) (h++[.lst ((eA ss).map PV.str)]):=by
 simp only[dN,dK,if_pos hl]
theorem qJ:fQ (x::xs) (fI 1) ox=xs:=by rw[_P.mH (by decide)];rfl
noncomputable def Rw.parts:Rw->List PV
 | .let_ _ _=>[.str "pocket",.str "sum"] | .leap _ _=>[.str "target",.str "sum"] | .get _ _=>[.str "pocket",.str "box"] | .put _ _=>[.str "box",.str "sum"]
 | .take _=>[.str "lock"] | .free _=>[.str "lock"] | .send _ _=>[.str "lane",.str "sum"] | .fetch _ _=>[.str "pocket",.str "lane"] | .say _ _=>[.str "door",.str "sum"]
 | .clock _=>[.str "pocket"] | .lot _ _=>[.str "pocket",.str "chances"] | .hear _ _=>[.str "pocket",.str "door"]
theorem Hk(r:Rw):c9 fz (.inr r.w)=fI (.ktup r.parts):=by cases r<;>(simp only[Rw.w,Rw.parts];decide +kernel)
theorem j5 l: ∀ ss:List Str,(ss.filterMap λz=>if z=l then ox else fI (PV.str z))=(ss.filter (λz=> !decide (z=l))).map PV.str
 | []=>rfl
 | q::r=>by
  by_cases z:q=l
  . rw[U7 (by simp[z]),SR (by simp[z]),j5 l r]
  . rw[U8 (by rw[if_neg z]),SJ (by simp[z]),R9,j5 l r]
noncomputable def toG:=(gT 2 (ax (gN 7) (ax (gN 8) bN)))
noncomputable def Bm:=(bS (mQ (aa 7) (eS "sum")) (ak (ai "worth" (a2 (aa 8) (eX 2 1))) (gN 6)) (bS (mQ (aa 7) (eS "chances")) (ak (aa 8) (gN 6)) (bS (aF (ao kR (aa 7) (eS "pocket"))) (ak (aa 8) (gN 5)) cD)))
section
variable{c:CF}{h:PH}{a0 a1 b0 b1 a3 a4 a5 a6 a7 a8 x:Option PV}{y s1 w:PV}
theorem qH(q: ∀ g,aE s1 (.int 1) g= .ok b g)(z:c "worth" [y,b] h= .ok w h):aW toG Bm c (.tup [.str "sum",y]) [a0,a1,fI s1,a3,a4,a5,a6,a7,a8] h= .ok (.nx [a0,a1,fI s1,a3,a4,a5,fI w,fI (.str "sum"),fI y]) h:=by
 simp? [toG,Bm,q,z]
theorem NX:aW toG Bm c (.tup [.str "chances",y]) [a0,a1,b0,a3,a4,a5,a6,a7,a8] h= .ok (.nx [a0,a1,b0,a3,a4,a5,fI y,fI (.str "chances"),fI y]) h:=by
 rfl
theorem Aw:aW toG Bm c (.tup [.str "pocket",y]) [a0,a1,b0,a3,a4,a5,a6,a7,a8] h= .ok (.nx [a0,a1,b0,a3,a4,a5,a6,fI (.str "pocket"),fI y]) h:=by
 rfl
theorem rD{p:Str}(q: ¬ p= "sum" /\ ¬ p= "chances" /\ ¬ p= "pocket"):aW toG Bm c (.tup [.str p,y]) [a0,a1,b0,a3,a4,a5,a6,a7,a8] h= .ok (.nx [a0,a1,b0,a3,a4,fI y,a6,fI (.str p),fI y]) h:=by
 simp? [toG,Bm,q.1,q.2.1,q.2.2]
end
theorem aav{c:CF}{h:PH}(s:fL)(r:Rw)(w: ∀ e:Sm,r.sum=fI e->c "worth" [lU e,An s.ps] h= .ok (.int (e.val (fP s.ps))) h)(xs:List PV)(a0 a1 a3 a4:Option PV) :
  ∃(t v:PV)(u7 u8:Option PV),bY s r= .tup [.str r.w,t,v]/\bK ⟨ox,xs⟩ (aW toG Bm c) ((r.parts.zip r.ps).map λp=> .tup [p.1,p.2]) [a0,a1,fI (aO s),a3,a4,fI (.str ""),fI .non,ox,ox] h= .ok (.nx [a0,a1,fI (aO s),a3,a4,fI t,fI v,u7,u8]) h:=by
 have i1: ∀ g,aE (aO s) (.int 1) g= .ok _ g:=λg=>rfl;have lp1: ∀{x:PV}{e e1:ay},aW toG Bm c x e h= .ok _ h->bK ⟨ox,xs⟩ (aW toG Bm c) [x] e h= .ok (.nx e1) h:=λq=>by rw[fN,q,cK,bL,jy]
 have lp2: ∀{x y:PV}{e e1 e2:ay},aW toG Bm c x e h= .ok _ h->aW toG Bm c y e1 h= .ok _ h->bK ⟨ox,xs⟩ (aW toG Bm c) [x,y] e h= .ok (.nx e2) h:=λq q2=>by rw[fN,q,cK,bL,fN,q2,cK,bL,jy]
 cases r with
 | let_ x e=>exact⟨_,_,_,_,rfl,lp2 Aw (qH i1 (w e rfl))⟩
 | leap x e=>exact⟨_,_,_,_,rfl,lp2 (rD (by decide +kernel)) (qH i1 (w e rfl))⟩
 | put x e=>exact⟨_,_,_,_,rfl,lp2 (rD (by decide +kernel)) (qH i1 (w e rfl))⟩
 | send x e=>exact⟨_,_,_,_,rfl,lp2 (rD (by decide +kernel)) (qH i1 (w e rfl))⟩
 | say x e=>exact⟨_,_,_,_,rfl,lp2 (rD (by decide +kernel)) (qH i1 (w e rfl))⟩
 | take x=>exact⟨_,_,_,_,rfl,lp1 (rD (by decide +kernel))⟩
 | free x=>exact⟨_,_,_,_,rfl,lp1 (rD (by decide +kernel))⟩
 | clock x=>exact⟨_,_,_,_,rfl,lp1 Aw⟩
 | lot x n=>exact⟨_,_,_,_,rfl,lp2 Aw NX⟩
 | _=>exact⟨_,_,_,_,rfl,lp2 Aw (rD (by decide +kernel))⟩
theorem rw_0 r g:aE (bO r) (.int 0) g= .ok (.str r.w) g:=kI
theorem rw_pk(h:r.gn=fI x) g:aE (bO r) (.int 1) g= .ok (.str x) g:=by cases r<;>cases h<;>exact ig
theorem fF.pk(h:fF L n r)(q:r.gn=fI x):x∈L:=by
 cases r<;>cases q<;>first | exact h | exact h.1
theorem jN(h:r.gn=fI x):after s v r=⟨s.row+1,lay s.ps x (PV.num v),s.held⟩:=by cases r<;>cases h<;>rfl
theorem ON{r:Rw}(h:r.gn=fI x):r.w∈(["get", "fetch", "clock", "lot", "hear"]:List Str)∧ ¬ r.w= "take" /\ ¬ r.w= "free" :=by cases r<;>cases h<;>(simp only [Rw.w];decide +kernel)
theorem rw_cls(r:Rw):(∃ x,r.gn=fI x)∨(∃ l,r= .take l)∨(∃ l,r= .free l)∨((¬ r.w∈(["get", "fetch", "clock", "lot", "hear"]:List Str)∧ ¬ r.w= "take" /\ ¬ r.w= "free")∧ ∀ s v,after s v r=⟨s.row+1,s.ps,s.held⟩):=by
 cases r with
 | take l=>exact .inr (.inl ⟨l,rfl⟩)
 | free l=>exact .inr (.inr (.inl ⟨l,rfl⟩))
 | get x _=>exact .inl ⟨x,rfl⟩
 | fetch x _=>exact .inl ⟨x,rfl⟩
 | clock x=>exact .inl ⟨x,rfl⟩
 | lot x _=>exact .inl ⟨x,rfl⟩
 | hear x _=>exact .inl ⟨x,rfl⟩
 | _=>exact .inr (.inr (.inr ⟨by simp only[Rw.w];decide +kernel,λ_ _=>rfl⟩))
section
variable{pg:Tb}(T:bH pg)
include T
theorem o9 k h (hL:L.length<=20) (hp:og p j rs) (hr: ∀ r∈rs,fF L rs.length r) (hs:dE L rs s):run pg (k+10) "touch_of" [p,.int j,aO s] h= .ok (qQ rs s) h:=by
 have nd:=hs.pk.nd;have hm:=λq m=>(hs.pk.mem q m).2;have hl:=hs.pk.len;have w: ∀ e:Sm,jY e->run pg _ _ _ h= .ok _ h:=λe he=>ka T h nd hm (by omega) e (k+8) he.1 (by have:=he.2;omega);have ro:=lV T (k+8) h hp;have ro':run pg _ _ _ h= .ok (.tup _) h:=ro;rw[run_eq T.yN rfl];cases e:rs[s.row]? with
 | none =>
  have:s.row=rs.length:=by have:=VQ.mp e;have:=hs.le;omega
  have t1:qQ rs s= .non:=by unfold qQ;rw[e]
  simp? [gH,lP,aO,t1,this,ro',xn]
 | some r =>
  have hlt:=(RY.mp e).1
  have ne: ¬ (s.row)=(rs.length:Int):=by omega
  have ix:=jX (h:=h) (iJ e)
  have hrr:=hr r (Se e)
  have t1:qQ rs s=bY s r:=by unfold qQ;rw[e]
  rw[t1]
  have w':=λe q=>w e (hrr.sum q)
  obtain⟨t,v,u7,u8,et,lp⟩:=aav s r w' ((r.parts.zip r.ps).map λp=> .tup [p.1,p.2]) (fI p) (fI (.int j)) (fI (.tup (rs.map bO))) (fI (bO r))
  have r_0:=λg=>rw_0 r g
  have i0: ∀ g,aE (aO s) (.int 0) g= .ok _ g:=λg=>rfl
  have sl: ∀ g,yf (bO r) _ ox g= .ok _ g:=λg=>by unfold bO;rw[Cy,qJ]
  have at_r:=ix
  rw[et]
  unfold toG Bm at lp
  simp? [gH,lP,i0,ro',ne,at_r,r_0,sl,Hk,lp,xn]
theorem rl k h (hL:L.length<=20) (hp:og p j rs) (hr: ∀ r∈rs,fF L rs.length r) (hs:dE L rs s) (hh:s.held.length<=60) (e:rs[s.row]?=fI r) (hv: ∀ x,r.gn=fI x-> ∃ i ,v= .int i/\0<=i/\i<=999):run pg (k+11) "seat_behind" [p,.int j,aO s,v] h= .ok (aO (bq rs 200 (after s v r))) h:=by
 have ro:=lV T (k+9) h hp;have ro':run pg (k+10) "rows_of" [p,.int j] h= .ok (.tup (rs.map bO)) h:=ro;have hlt:=(RY.mp e).1;have ix:=jX (h:=h) (iJ e);have hrr:=hr r (Se e);have ink: ∀ a:Str,jE (.str a) (.ktup [(.str "get"),(.str "fetch"),(.str "clock"),(.str "lot"),(.str "hear")]) h= .ok (.bl (decide (a∈(["get", "fetch", "clock", "lot", "hear"]:List Str)))) h:=λa=>in_K (ss:=["get", "fetch", "clock", "lot", "hear"]);rw [run_eq T.sM rfl];have r0:run pg (k+10) "rested" [p,.int j,.tup [.int ((s.row:Int)+1),An s.ps,kO s.held]] h= .ok (aO (bq rs 200 ⟨s.row+1,s.ps,s.held⟩)) h:=iK T k h hL hp hr (s:=⟨s.row+1,s.ps,s.held⟩) ⟨hs.pk,hlt⟩;have r_0:=λg=>rw_0 r g;have at_r:=ix;rcases rw_cls r with⟨x,hx⟩ | ⟨l,rfl⟩ | ⟨l,rfl⟩ | ⟨⟨n5,nt,nf⟩,af⟩
 . obtain⟨i,rfl,h0,h9⟩:=hv x hx;have li:=yw hs.pk (hrr.pk hx) h0 h9;have l1:=Ar T (k+9) h hs.pk.nd x i (Sx li.len hL) (by have:=hs.pk.len;omega);have r1:run pg (k+10) "rested" [p,.int j,.tup [.int ((s.row:Int)+1),An (lay s.ps x i),kO s.held]] h=_:=iK T k h hL hp hr (s:=⟨s.row+1,lay s.ps x i,s.held⟩) ⟨li,hlt⟩;have n5:=(ON hx).1;have x1:=λg=>rw_pk hx g;rw[jN hx];simp? [cq,dh,aO,ro',at_r,r_0,x1,ink,n5,l1,r1,PV.num]
 . have r1:=iK T k (h++[.lst ((eA (s.held++[l])).map PV.str)]) hL hp hr (s:=⟨s.row+1,s.ps,eA (s.held++[l])⟩) ⟨hs.pk,hlt⟩;have r1':run pg (k+10) "rested" [p,.int j,.tup [.int ((s.row:Int)+1),An s.ps,.tup ((eA (s.held++[l])).map PV.str)]] (h++[.lst ((eA (s.held++[l])).map PV.str)])=_:=r1;have s1:=zw (h:=h) (ss:=s.held++[l]) (by simp;omega);rw[SH] at s1;have hl2:(s.held.map PV.str).length+1<=16777216:=by simp;omega
   have s1':dN [.tup (s.held.map PV.str++[.str l])] h= .ok (.ref h.length) (h++[.lst ((eA (s.held++[l])).map PV.str)]):=s1;simp? [cq,dh,aO,kO,ro',ix,bO,Rw.w,Rw.ps,ink,Sd,Sp,or_false,or_true,true_or,false_or,after,xn,s1',r1'];exact bj (kY _)
 . have e1: ∀ e ,e=[fI p,fI (.int j),fI (aO s),fI v,fI (bO (.free l)),fI (An s.ps),fI (kO s.held)]->dU ⟨ox,s.held.map PV.str⟩ (aM 1 (gN 7) (aF (ao kR (aa 7) (eX 4 1))) (aa 7) (run pg (k+10)) e) (s.held.map PV.str) [] h= .ok ((s.held.filter (λz=> !decide (z=l))).map PV.str) h:=by
    rintro _ rfl;rw[<- j5];refine(cM rfl s.held [] (λq m=>?_) (by simp;omega)).trans (by rfl);simp? [bO,Rw.w,Rw.ps];by_cases z:q=l<;>simp[z]
   have e1':=e1 _ rfl;have r1:=iK T k (h++[.lst ((s.held.filter (λz=> !decide (z=l))).map PV.str)]) hL hp hr (s:=⟨s.row+1,s.ps,s.held.filter (λz=> !decide (z=l))⟩) ⟨hs.pk,hlt⟩;have r1':run pg (k+10) "rested" [p,.int j,.tup [.int ((s.row:Int)+1),An s.ps,.tup ((s.held.filter (λz=> !decide (z=l))).map PV.str)]] (h++[.lst ((s.held.filter (λz=> !decide (z=l))).map PV.str)])=_:=r1;simp only[bO,aO,kO,Rw.w,Rw.ps] at e1';simp? [cq,dh,aO,kO,ro',ix,bO,Rw.w,Rw.ps,ink,Sd,Sp,or_false,or_true,true_or,false_or,after,xn,e1',r1'];exact bj (kY _)
 . rw[af];simp? [cq,dh,aO,ro',at_r,r_0,ink,n5,nt,nf,r0]
end
structure sR(L:List Str)(D:Pk):Prop where
 nd:(D.map (·.1)).Nodup
 mem: ∀ q∈D,q.1∈L/\0<=q.2/\q.2<=999
noncomputable def putD(D:Pk)(x:Str)(v:Int):Pk:=if x∈D.map (·.1) then D.map (λq=>if q.1=x then(q.1,v) else q) else D++[(x,v)]
theorem zP(D:Pk) x v:(D.map (λq=>if q.1=x then(q.1,v) else q)).map (·.1)=D.map (·.1):=by
 rw[Tf];refine UE λq _=>?_;show(if q.1=x then(q.1,v) else q).1=q.1;split<;>rfl
theorem kr D x v:jm (gA D) (.inr x) (.int v)=gA (putD D x v):=by
 unfold jm putD;have e:((gA D).any λkv=>decide (kv.1= .inr x))=decide (x∈D.map (·.1)):=by
  rw[Uj];simp only[Gz,decide_eq_true_eq,gA,SS];constructor
  . rintro ⟨kv,⟨q,m,rfl⟩,e⟩;exact⟨q,m,B1 e⟩
  . rintro ⟨q,m,rfl⟩;exact⟨_,⟨q,m,rfl⟩,rfl⟩
 rw[e];by_cases h:x∈D.map (·.1)
 . rw[if_pos (by simpa only[decide_eq_true_eq] using h),if_pos h];unfold gA;rw[Tf];rw[Tf];refine UE λq _=>?_;by_cases z:q.1=x
   . simp[z]
   . simp[z]
 . rw[if_neg (by simpa only[decide_eq_true_eq] using h),if_neg h];unfold gA;rw[SH];rfl
theorem yR x v y: ∀ D ,x∈D.map (·.1)->fP (D.map (λq=>if q.1=x then(q.1,v) else q)) y=if y=x then v else fP D y
 | q::r,h=>by
  rw[R9,fP,fP];by_cases z:q.1=x
  . rw[if_pos z];by_cases w:y=x
    . simp_all
    . rw[if_neg (λe=>w (e.symm.trans z)),if_neg w,if_neg (λe=>w (e.symm.trans z))];by_cases hr:x∈r.map (·.1)
      . rw[yR x v y r hr,if_neg w]
      . congr 1;refine(UE λp m=>?_).trans (List.map_id _);show(if p.1=x then(p.1,v) else p)=p;rw[if_neg (λe=>hr (SS.mpr ⟨p,m,e⟩))]
  . rw[if_neg z];have hr:x∈r.map (·.1):=by
     rcases Sd.mp h with e | m
     . exact absurd e.symm z
     . exact m
    rw[yR x v y r hr];by_cases w:q.1=y
    . rw[if_pos w,if_pos w,if_neg (λe=>z (w.trans e))]
    . rw[if_neg w,if_neg w]
theorem CR x v y: ∀ D ,x ∉ D.map (·.1)->fP (D++[(x,v)]) y=if y=x then v else fP D y
 | [],_=>by
  rw[SG,fP,fP];by_cases w:y=x
  . rw[if_pos w,if_pos w.symm]
  . rw[if_neg w,if_neg (λe=>w e.symm)];rfl
 | q::r,h=>by
  rw[R9,Sd,not_or] at h;rw[TA,fP,fP,CR x v y r h.2];by_cases w:q.1=y
  . rw[if_pos w,if_pos w,if_neg (λe=>h.1 (e.symm.trans w.symm))]
  . rw[if_neg w,if_neg w]
theorem pR D x v y:fP (putD D x v) y=if y=x then v else fP D y:=by
 unfold putD;split
 . rename_i h;exact yR x v y D h
 . rename_i h;exact CR x v y D h
theorem pI(h:sR L D)(hx:x∈L)(h0:0<=v)(h9:v<=999):sR L (putD D x v):=by
 unfold putD;split
 . refine⟨by rw[zP];exact h.nd,λq m=>?_⟩;obtain⟨p,mp,rfl⟩:=SS.mp m;by_cases z:p.1=x
   . rw[if_pos z];exact⟨(h.mem p mp).1,h0,h9⟩
   . rw[if_neg z];exact h.mem p mp
 . rename_i hn;refine⟨?_,λq m=>?_⟩
   . rw[SH];refine U5.mpr ⟨h.nd,by simp,λa ha b hb e=>?_⟩;have hb':b=x:=by simpa using hb
     exact hn (by rw[<- hb',<- e];exact ha)
   . rcases Ti.mp m with m | m
     . exact h.mem q m
     . rw[Sf.mp m];exact⟨hx,h0,h9⟩
theorem sR.CH(h:sR L D): ∀ x,0<=fP D x/\fP D x<=999:=λx=>by
 by_cases hx:x∈D.map (·.1)
 . obtain⟨q,m,rfl⟩:=SS.mp hx;rw[zK h.nd q m];exact(h.mem q m).2
 . rw[uA hx];decide
theorem Gw{t:ay->PH->RV Bool}{b:ay->PH->RV Fl}{f:Nat}{e:ay}{h h1:PH}(ht:t e h= .ok false h1):cR t b (f+1) e h= .ok (.nx e) h1:=by
 rw[cR,ht];rfl
theorem JH{t:ay->PH->RV Bool}{b:ay->PH->RV Fl}{f:Nat}{e e1:ay}{h h1 h2:PH}(ht:t e h= .ok true h1)(hb:b e h1= .ok (.nx e1) h2):cR t b (f+1) e h=cR t b f e1 h2:=by
 rw[cR,ht,d9,if_pos rfl,hb,d9]
theorem sR.len(h:sR L D):D.length<=L.length:=by
 have:=Vi h.nd (λx hx=>by obtain⟨q,hq,rfl⟩:=SS.mp hx;exact(h.mem q hq).1);simpa using this
theorem oW s r:(behind s r).held=s.held:=by
 cases r with
 | leap j e0=>show(if e0.val _=0 then(⟨s.row+1,s.ps,s.held⟩:fL) else⟨j.toNat,s.ps,s.held⟩).held=s.held;split<;>rfl
 | _=>rfl
theorem qZ(h:bC rs s=false): ∃ r,rs[s.row]?=fI r/\own s.held r=true:=by
 unfold bC at h;cases e:rs[s.row]? with
 | none=>simp_all
 | some r=>rw[e] at h;exact⟨r,rfl,by simpa using h⟩
theorem aR{a b:MS}{c:CF}{e e1:ay}{h h1:PH}(q:a c e h= .ok (.nx e1) h1):ag a b c e h=b c e1 h1:=by rw[D9,q,cK,Ao]
theorem Jt:u6 t b c e h=cR (t c) (b c) 100000 e h:=(rfl)
theorem eQ ss:(eA ss).Perm ss:=UD ss _
theorem BE(nd:ss.Nodup):(eA ss).Pairwise kE:=by
 have h1:=Ul iB (λa b=>by simpa using ko a b) ss;have h2:=(eQ ss).nodup_iff.mpr nd;refine h1.imp₂ (λa b z1 z2=>?_) h2;rcases nU z2 with z | z
 . exact z
 . unfold rZ at z1;simp[z] at z1
theorem cy: ∀ n s,(bq rs n s).held=s.held
 | 0,s=>by unfold bq;split<;>rfl
 | n+1,s=>by
  unfold bq;split
  . rfl
  . split
    . rfl
    . rw[cy n,oW]
noncomputable def r6(ns:List Int):PO:= .fro (ns.map PV.int)
noncomputable def bV(q:Int × Int × Int):PO:= .lst [.int q.1,.int q.2.1,.int q.2.2]
theorem Le:(bV q).hU n=true:=rfl
section
variable{h:PH}{n:Nat}{x y z v:PV}{fr:PO}{q q':Int × Int × Int}{g g':PH}
theorem Jp:Eu n (.int 2) v h (fI (.lst [x,y,z]))= .ok () (h.set n (.lst [x,y,v])):=rfl
theorem dY(hv:v.flat=true):_P.settle (fr::bV q::g) v (fr::bV q'::(g++g'))= .ok v (fr::bV q'::g) :=
 l9 (i:=1) hv rfl rfl Le
theorem mN:_P.settle (fr::bV q::g) v (fr::bV q'::g)= .ok v (fr::bV q'::g):=oR (i:=1) (o:=bV q)
end
theorem KJ{xs:List PV}{c:Int}(c0:0<=c)(c1:c < xs.length): ∃ x∈xs,fK xs c=fI x:=by
 obtain⟨n,rfl⟩:=Tj c0;exact⟨xs[n]'(by omega),Uw _,_P.dS rfl (R6 (by omega))⟩
theorem om{ss:List Str}{v:Int}(h0:0<=v)(h1:v < ss.length): ∃ x∈ss,fK (ss.map PV.str) v=fI (.str x):=by
 obtain⟨n,en⟩:=Tj h0;subst en;have hn:n < ss.length:=by lia
 exact⟨ss[n],Uw hn,_P.dS rfl (by rw[Sq,R6 hn];rfl)⟩
section
variable{pg:Tb}(T:bH pg)
include T
theorem cC j fr q m (m0:0 < m) (m9:m<=1000000): ∃(v:Int)(q':Int × Int × Int),0<=v/\v < m/\ ∀ g,run pg (j+1) "_law_take" [.ref 1,.int m] (fr::bV q::g)= .ok (.int v) (fr::bV q'::g):=by
 obtain⟨a,b,c⟩:=q;have b0: ∀{q q':Int × Int × Int}{g:PH}{v:PV},_P.settle (fr::bV q::g) v _= .ok v (fr::bV q'::g):=mN;simp only[bV] at b0 ⊢;by_cases z:0 < a
 . refine⟨a % m,(a / m,b,c+1),Vx _ (by omega),M7 _ m0,λg=>?_⟩;rw[run_eq T.oV rfl];simp? (disch:=first | omega | exact mm) only[fh,jP,Jp,sQ,y6,z];exact b0 (q:=(a,b,c)) (q':=(a / m,b,c+1))
 . let x:=(b % 2147483647+31*(c+1))*48271 % 2147483629
   let y:=(x / 11+17*(c+1))*69621 % 2147483587
   refine⟨y / 7 % m,(a,b,c+1),Vx _ (by omega),M7 _ m0,λg=>?_⟩;rw[run_eq T.oV rfl];have m1: ∀(i:Int) h,dH _ _ h= .ok (.int (i*48271)) h:=λi h=>vE (by omega);have m2: ∀(i:Int) h,dH _ _ h= .ok (.int (i*69621)) h:=λi h=>vE (by omega);simp? [fh,jP,Jp,sQ,yV,y6,z,m1,m2];exact b0 (q:=(a,b,c)) (q':=(a,b,c+1))
theorem Mg j ns (hn:ns.length<=63): ∃ q,run pg (j+1) "_law_box" [.ref 0,.int 0] [r6 ns]= .ok (.ref 1) [r6 ns,bV q]:=by
 have ln:bG [.ref 0] [r6 ns]= .ok (.int ns.length) [r6 ns]:=by rw[Oc rfl,xn]
 have mB: ∀(i:Int)(p:Bool) h,dH _ _ h= .ok (.int (i*if p=true then 1 else 0)) h:=λi p h=>vE (by split<;>omega);by_cases z:0 < (ns.length:Int)
 . obtain⟨x,xm,ex⟩:=KJ (xs:=ns.map PV.int) (c:=0 % (ns.length)) (Vx _ (by omega)) (by simp_all);obtain⟨i,_,rfl⟩:=SS.mp xm;have ix:aE (.ref 0) (.int (0 % (ns.length))) [r6 ns]= .ok (.int i) [r6 ns]:=by rw[oM];show Ls _ _ (fI (.fro _))=_;rw[Px,ex];rfl
   refine⟨((i+1009*(0 / (ns.length)))*(if decide (1000000000000000000<=i+1009*(0 / (ns.length)))=true then 1 else 0),i+1009*(0 / (ns.length)),0),?_⟩;rw[run_eq T.qt rfl];simp? [gM,lN,ln,z,ix,mB];exact aY rfl
 . refine⟨(0,0,0),?_⟩;rw[run_eq T.qt rfl];simp? [gM,lN,ln,z];exact aY rfl
end
theorem Gx(h0:0<=v)(h1:v < 5): ∃ o:Bo,fK [PV.str "add",.str "sub",.str "mul",.str "less",.str "same"] v=fI (.str o.w):=by
 have:v=0\/v=1\/v=2\/v=3\/v=4:=by lia
 rcases this with rfl | rfl | rfl | rfl | rfl
 . exact⟨.add,rfl⟩
 . exact⟨.sub,rfl⟩
 . exact⟨.mul,rfl⟩
 . exact⟨.less,rfl⟩
 . exact⟨.same,rfl⟩
theorem IK(h0:0<=v)(h1:v < 7): ∃ n ,0<=n/\n<=999/\fK [PV.int 0,.int 1,.int 2,.int 3,.int 7,.int 500,.int 999] v=fI (.int n):=by
 have:v=0\/v=1\/v=2\/v=3\/v=4\/v=5\/v=6:=by omega
 rcases this with rfl | rfl | rfl | rfl | rfl | rfl | rfl<;>exact⟨_,by decide,by decide,rfl⟩
def Sm.N5(P:Str->Prop):Sm->Prop
 | .num _=>True
 | .of x=>P x
 | .un e=>e.N5 P
 | .bin _ a b=>a.N5 P/\b.N5 P
section
variable{pg:Tb}(T:bH pg)
include T
theorem yr j fr {ps:List Str} (p0:0 < ps.length) (p9:ps.length<=1000): ∀ d q(g:PH),g[np]?=fI (.lst (ps.map PV.str)) ->
  ∃(e:Sm)(q':Int × Int × Int),e.ok/\e.dp<=d+1/\e.N5 (· ∈ps)/\run pg (j+d+2) "_law_sum" [.ref 1,.ref (np+1+1),.int d] (fr::bV q::g)= .ok (lU e) (fr::bV q'::g):=by
 have num: ∀(k:Nat)(d:Int)(q:Int × Int × Int)(g:PH)(w:Int),d=0\/w < 2-> ∃(e:Sm)(q':Int × Int × Int)(G:PH),e.ok/\e.dp=1/\e.N5 (· ∈ps)/\ ∀ rest:MS,∀ u:Option PV,
   ag (bS (Ii (mQ (aa 2) (eI 0)) (aF (ao AQ (aa 3) (eI 2)))) (aA (aw (ae (eS "num") (ae (ao aE (bA (ae (eI 0) (ae (eI 1) (ae (eI 2) (ae (eI 3) (a3 (eI 7) (eI 500) (eI 999))))))) (ai "_law_take" (a2 (aa 0) (eI 7)))) aj)))) cD) rest (run pg (k+1)) [fI (.ref 1),fI (.ref (np+1+1)),fI (.int d),fI (.int w),u] (fr::bV q::g)= .ok (.rt (lU e)) (fr::bV q'::(g++G)):=λk d q g w hw=>by
  obtain⟨a,q',a0,a1,ea⟩:=cC T k fr q 7 (by decide) (by decide);obtain⟨n,n0,n1,en⟩:=IK a0 a1;refine⟨.num n,q',[.lst [.int 0,.int 1,.int 2,.int 3,.int 7,.int 500,.int 999]],⟨n0,n1⟩,rfl,trivial,λrest u=>?_⟩;by_cases z:d=0
  . simp? [z,ea,en,lU]
  . have z2:=hw.resolve_left z;simp? [z,z2,ea,en,lU]
 intro d
 induction d with
 | zero =>
  intro q g hp
  obtain⟨w,q1,w0,w1,ew⟩:=cC T j fr q 8 (by decide) (by decide)
  obtain⟨e,q',G,h1,h2,h3,h4⟩:=num j (((0:Nat))) q1 g w (.inl rfl)
  refine⟨e,q',h1,by omega,h3,?_⟩
  rw[RC,run_eq T.gv rfl]
  simp? [cU,eJ,ew,↓h4,dY (fJ e)]
 | succ d ih =>
  intro q g hp
  have dd:((d+1:Nat)) - 1=(d:Int):=by omega
  have dn: ¬ ((d+1:Nat):Int)=0:=by omega
  have hlt:=aC hp
  obtain⟨w,q1,w0,w1,ew⟩:=cC T (j+d+1) fr q 8 (by decide) (by decide)
  rw[show j+(d+1)+2=(j+d+2)+1 by omega]
  by_cases c1:w < 2
  . obtain⟨e,q',G,h1,h2,h3,h4⟩:=num (j+d+1) ((d+1:Nat)) q1 g w (.inr c1);refine⟨e,q',h1,by omega,h3,?_⟩;rw[run_eq T.gv rfl];simp? [cU,eJ,ew,↓h4,dY (fJ e)]
  . by_cases c2:w < 5
    . obtain⟨a,q2,a0,a1,ea⟩:=cC T (j+d+1) fr q1 ps.length (by omega) (by omega);obtain⟨x,hx,ex⟩:=om a0 a1;refine⟨.of x,q2,trivial,by simp[Sm.dp],hx,?_⟩;rw[run_eq T.gv rfl];simp? [cU,eJ,ew,dn,c1,c2,hp,ea,ex,lU,xn];exact mN
    . by_cases c3:w=5
      . obtain⟨e,q2,h1,h2,h3,h4⟩:=ih q1 g hp;refine⟨.un e,q2,h1,by unfold Sm.dp;omega,h3,?_⟩;subst c3;rw[run_eq T.gv rfl];simp? [cU,eJ,ew,dn,dd,h4];exact mN
      . let W:PH:=[.lst [.str "add",.str "sub",.str "mul",.str "less",.str "same"]]
        obtain⟨a,q2,a0,a1,ea⟩:=cC T (j+d+1) fr q1 5 (by decide) (by decide);obtain⟨o,eo⟩:=Gx a0 a1;have hp':(g++W)[np]?=fI (.lst (ps.map PV.str)):=by rw[aq hlt];exact hp
        obtain⟨e,q3,h1,h2,h3,h4⟩:=ih q2 (g++W) hp';obtain⟨f,q4,i1,i2,i3,i4⟩:=ih q3 (g++W) hp';refine⟨.bin o e f,q4,⟨h1,i1⟩,by unfold Sm.dp;omega,⟨h3,i3⟩,?_⟩;rw[run_eq T.gv rfl];simp only[W] at h4 i4;simp? [cU,eJ,ew,dn,dd,c1,c2,c3,ea,eo,h4,i4];exact dY (v:=lU (.bin o e f)) (fJ _)
end
noncomputable def yg(x:Str):=decide (x.cps.size<=20)&&x.cps.toList.all λc=>decide (c < 16 ^ 8)
mutual
noncomputable def AA:PV->Bool
 | .non=>true
 | .int i=>decide (0<=i/\i<=1000000)
 | .str x=>yg x
 | .tup xs=>nc xs
 | _=>false
noncomputable def nc:List PV->Bool
 | []=>true
 | x::r=>AA x&&nc r
end
mutual
noncomputable def Jm:PV->Nat
 | .str x=>x.cps.size
 | .tup xs=>Je xs
 | _=>0
noncomputable def Je:List PV->Nat
 | []=>0
 | x::r=>Jm x+1+Je r
end
mutual
noncomputable def rY:PV->Nat
 | .tup xs=>jW xs+1
 | _=>0
noncomputable def jW:List PV->Nat
 | []=>0
 | x::r=>max (rY x) (jW r)
end
theorem xp(h0:0<=i)(h9:i<=1000000):(Xt i).shown.length<=13:=PyData.shown_int_le (by omega)
theorem B5{i:Int}(h0:0<=i)(h9:i<=1000000):i.natAbs.log2 < 1920:=by
 by_cases z:i.natAbs=0
 . rw[z];decide
 . rw[Nat.log2_lt z];exact SK (show i.natAbs < 2 ^ 20 by omega) (Nat.pow_le_pow_right (by decide) (by decide))
mutual
theorem AA.d: ∀(v:PV),AA v=true-> ∃ d:Vd,(∀ sub,ic sub v=fI d)/\d.showable=true/\d.hasDict=false/\d.depth=rY v/\d.bulk=Jm v/\V9 13 d=true
 | .non,_=>⟨.none,λ_=>rfl,rfl,rfl,rfl,rfl,rfl⟩
 | .int i,h=>by
  rw[AA,decide_eq_true_eq] at h;exact⟨.int i,λ_=>rfl,by rw[Du,decide_eq_true_eq];exact B5 h.1 h.2,rfl,rfl,rfl,by rw[V9,decide_eq_true_eq];exact xp h.1 h.2⟩
 | .str x,h=>by
  rw[AA,yg,Sr] at h;exact⟨.str x,λ_=>rfl,rfl,rfl,rfl,rfl,by rw[V9];exact h.2⟩
 | .tup xs,h=>by
  rw[AA] at h;obtain⟨ds,e,h1,h2,h3,h4,h5⟩:=nc.d xs h;exact⟨.tuple ds,λsub=>by rw[ic,e];rfl,by rw[Du];exact h1,by rw[PyData.hasDict];exact h2,by rw[Ww,h3,rY],by rw[BV,h4,Jm],by rw[V9];exact h5⟩
theorem nc.d: ∀(xs:List PV),nc xs=true-> ∃ ds:List Vd,(∀ sub,bW sub xs=fI ds)/\Xu ds=true/\XS ds=false/\T9 ds=jW xs/\ZC ds=Je xs/\WC 13 ds=true
 | [],_=>⟨[],λ_=>rfl,rfl,rfl,rfl,rfl,rfl⟩
 | x::r,h=>by
  rw[nc,Sr] at h;obtain⟨d,e,h1,h2,h3,h4,h5⟩:=AA.d x h.1;obtain⟨ds,e',i1,i2,i3,i4,i5⟩:=nc.d r h.2;exact ⟨d::ds,λsub=>by rw [bW,e,e'],by rw [Xu,h1,i1];rfl,by rw [XS,h2,i2];rfl,by rw [T9,h3,i3,jW],by rw [ZC,h4,i4,Je],by rw [WC,h5,i5];rfl⟩
end
theorem Gv{ys : List PV}{ds : List Vd}(h1 : Xu ds = true)(h2 : XS ds = false)(h3 : T9 ds <= 60)(h4 : ZC ds <= 1000000)(h5 : WC 13 ds = true) : zk (.tuple ds) /\ zk (.list ds) :=
  ⟨⟨by exact h1, by exact h2, by rw [Ww]; omega, YV (B := 13) (by decide) (by decide) (by exact h5) (by rw [BV]; omega)⟩,
   ⟨by exact h1, by exact h2, by rw [Ww]; omega, YV (B := 13) (by decide) (by decide) (by exact h5) (by rw [BV]; omega)⟩⟩
theorem HG(h:nc ys=true)(hd:jW ys<=60)(hb:Je ys<=1000000): ∃ x ,∀ g,iy [.tup ys] g= .ok (.str x) g:=by
 obtain ⟨ds,e,h1,h2,h3,h4,h5⟩:=nc.d ys h;refine ⟨(YW ds).shown,λg=>?_⟩;have e2:dat 6 g (.tup ys)=fI (.tuple ds):=by unfold dat;rw[ic,e];rfl
 unfold iy;simp only[e2];exact if_pos (Gv (ys:=ys) h1 h2 (by omega) (by omega) h5).1
theorem Ll(h:yg x=true):x.cps.size<=20:=by rw[yg,Sr,decide_eq_true_eq] at h;exact h.1
theorem qO: ∀ ss:List Str,bW f (ss.map PV.str)=fI (ss.map YX)
 | []=>rfl
 | x::r=>by rw[R9,bW,qO r];rfl
theorem xg{ss:List Str}(e:h[n]?=fI (.lst (ss.map PV.str))):dat (k+1) h (.ref n)=fI (.list (ss.map YX)):=by
 unfold dat;simp only[ic,e,qO,UC]
theorem ne_nil(e1:h[n]?=fI (.lst (ss.map PV.str)))(e2:h[m]?=fI (.lst []))(ok: ∀ x∈ss,TK x=true):kR (.ref n) (.ref m) h= .ok (.bl (!decide (ss=[]))) h:=by
 have d1:=xg (k:=5) e1;have d2:=xg (k:=5) (ss:=[]) e2;have sc:jR (.ref n) (.ref m)=false:=rfl;have dp: ∀ xs:List Str,Vj (.list _)=xs.all _:=λxs=>by
  rw[Vj,PyProof.Rows.canLayAll_strs']
 have al:alike (.ref n) (.ref m) h=fI (decide (ss=[])):=by
  unfold alike;rw[sc,d1,d2];have c1:(Vk (ss.map YX)).canLay0=true:=by rw[dp];exact WG.mpr ok
  have c3:min (Vk (ss.map YX)).depth (Vk (([]:List Str).map YX)).depth<=64:=Sx (YH _ _) (by decide);simp only[Xv,if_false,c1,c3];cases ss with
  | nil=>rfl
  | cons x r=>rfl
 have nd:iL h (.ref n)=false:=by simp only[iL,e1]
 unfold kR;rw[al,nd];rfl
theorem bE(e:h[n]?=fI (.lst xs)):kC.ir ⟨fI n,xs⟩ h=true:=by
 unfold kC.ir;simp only[e,true_or,decide_true]
noncomputable def nz x:=(yg x&&TK x)&& !decide (x=SO "")
theorem tE(h:nz x=true):yg x=true:=by unfold nz at h;rw[Sr,Sr] at h;exact h.1.1
theorem vq(h:nz x=true):TK x=true:=by unfold nz at h;rw[Sr,Sr] at h;exact h.1.2
def Cm(s:List Str):=s.length<=20/\ ∀ x∈s,nz x=true/\TK x=true
def ve(s0 s1 s2 s3:List Str)(x:Str):=x= "clock" \/x= "lot" \/(s0≠[]/\(x= "get" \/x= "put"))\/(s1≠[]/\(x= "take" \/x= "free"))\/(s2≠[]/\(x= "send" \/x= "fetch"))\/(s3≠[]/\(x= "say" \/x= "hear"))
structure Cn(J:PH)(nn:Nat)(s0 s1 s2 s3:List Str):Prop where
 at_: ∃ b0 b1 b2 b3:Nat,J[nn]?=fI (.lst [.ref (b0+1+1),.ref (b1+1+1),.ref (b2+1+1),.ref (b3+1+1)])/\J[b0]?=fI (.lst (s0.map PV.str))/\J[b1]?=fI (.lst (s1.map PV.str))/\J[b2]?=fI (.lst (s2.map PV.str))/\J[b3]?=fI (.lst (s3.map PV.str))
 ok:Cm s0/\Cm s1/\Cm s2/\Cm s3
theorem Cn.app(h:Cn J nn s0 s1 s2 s3):Cn (J++g) nn s0 s1 s2 s3:=by
 obtain⟨b0,b1,b2,b3,e,e0,e1,e2,e3⟩:=h.at_;exact⟨⟨b0,b1,b2,b3,(aq (aC e)).trans e,(aq (aC e0)).trans e0,(aq (aC e1)).trans e1,(aq (aC e2)).trans e2,(aq (aC e3)).trans e3⟩,h.ok⟩
noncomputable def Rw.th:Rw->Option (Nat × Str)
 | .get _ b=>fI (0,b) | .put b _=>fI (0,b) | .take l=>fI (1,l) | .free l=>fI (1,l)
 | .send l _=>fI (2,l) | .fetch _ l=>fI (2,l) | .say d _=>fI (3,d)
 | _=>ox
noncomputable def Rw.nm:Rw->Option (Nat × Str)
 | .hear _ d=>fI (3,d)
 | r=>r.th
theorem Py{r:Rw}(h:r.th=fI z):r.nm=fI z:=by cases r<;>first | exact h | cases h
noncomputable def Qv(s0 s1 s2 s3:List Str) 
 | 0=>s0 | 1=>s1 | 2=>s2 | _=>s3
def Cz s0 s1 s2 s3 (r:Rw):= ∀ k t,r.nm=fI (k,t)->t∈Qv s0 s1 s2 s3 k
noncomputable def EW:List (Key × PV):=[(.inr "get",.int 0),(.inr "put",.int 0),(.inr "take",.int 1),(.inr "free",.int 1),(.inr "send",.int 2),(.inr "fetch",.int 2),(.inr "say",.int 3),(.inr "hear",.int 3)]
theorem DU:cE [] EW=EW:=by rfl
theorem wH a h:jE (.str a) (.tup [.str "clock",.str "lot"]) h= .ok (.bl (decide (a∈(["clock", "lot"]:List Str)))) h:=yU (ss:=["clock", "lot"])
theorem CO a h:jE (.str a) (.tup [.str "get",.str "fetch",.str "hear"]) h= .ok (.bl (decide (a∈(["get", "fetch", "hear"]:List Str)))) h:=yU (ss:=["get", "fetch", "hear"])
theorem JB a h:jE (.str a) (.tup [.str "take",.str "free"]) h= .ok (.bl (decide (a∈(["take", "free"]:List Str)))) h:=yU (ss:=["take", "free"])
def Dn(r:Rw) i t:= ∀ k u,r.nm=fI (k,u)->k=i∧u=t
def RowC x i:=(x∈(["get", "fetch", "hear"]:List Str)∧ ∀ y t ,∃ r ,r.w=x∧r.ps=[.str y,.str t]∧(∀ L n,y∈L->fF L n r)∧Dn r i t) ∨
 (¬ x∈(["get", "fetch", "hear"]:List Str)∧x∈(["take", "free"]:List Str)∧ ∀ t ,∃ r ,r.w=x∧r.ps=[.str t]∧(∀ L n,fF L n r)∧Dn r i t) ∨
 (¬ x∈(["get", "fetch", "hear"]:List Str)∧ ¬ x∈(["take", "free"]:List Str)∧ ∀ t e,∃ r ,r.w=x∧r.ps=[.str t,lU e]∧(∀ L n,jY e->fF L n r)∧Dn r i t)
theorem oO(e:r.nm=fI (i,t)):Dn r i t:=λk u h=>by simp_all
theorem GK:RowC "get" 0:= .inl ⟨by decide +kernel,λy t=>⟨.get y t,rfl,rfl,λ_ _ h=>h,oO rfl⟩⟩
theorem HO:RowC "put" 0:= .inr (.inr ⟨by decide +kernel,by decide +kernel,λt e=>⟨.put t e,rfl,rfl,λ_ _ h=>h,oO rfl⟩⟩)
theorem C7:RowC "take" 1:= .inr (.inl ⟨by decide +kernel,by simp_all,λt=>⟨.take t,rfl,rfl,λ_ _=>trivial,oO rfl⟩⟩)
theorem CQ:RowC "free" 1:= .inr (.inl ⟨by decide +kernel,by simp_all,λt=>⟨.free t,rfl,rfl,λ_ _=>trivial,oO rfl⟩⟩)
theorem Eg:RowC "send" 2:= .inr (.inr ⟨by decide +kernel,by decide +kernel,λt e=>⟨.send t e,rfl,rfl,λ_ _ h=>h,oO rfl⟩⟩)
theorem Bk:RowC "fetch" 2:= .inl ⟨by decide +kernel,λy t=>⟨.fetch y t,rfl,rfl,λ_ _ h=>h,oO rfl⟩⟩
theorem Gj:RowC "say" 3:= .inr (.inr ⟨by decide +kernel,by decide +kernel,λt e=>⟨.say t e,rfl,rfl,λ_ _ h=>h,oO rfl⟩⟩)
theorem E6:RowC "hear" 3:= .inl ⟨by decide +kernel,λy t=>⟨.hear y t,rfl,rfl,λ_ _ h=>h,oO rfl⟩⟩
theorem Hw(N:Cn J nn s0 s1 s2 s3)(h:ve s0 s1 s2 s3 x):x= "clock" ∨x= "lot" ∨
  ∃ (i:Nat) (b:Nat) (s:List Str) (rf:List PV),c9 EW (.inr x)=fI (.int i)∧ ¬ x∈(["clock", "lot"]:List Str)∧J[nn]?=fI (.lst rf)∧fK rf i=fI (.ref (b+1+1))∧J[b]?=fI (.lst (s.map PV.str))∧s≠[]∧Cm s∧RowC x i∧s=Qv s0 s1 s2 s3 i:=by
 obtain ⟨b0,b1,b2,b3,e,e0,e1,e2,e3⟩:=N.at_;obtain ⟨o0,o1,o2,o3⟩:=N.ok;rcases h with h | h | ⟨z,h⟩ | ⟨z,h⟩ | ⟨z,h⟩ | ⟨z,h⟩
 . exact .inl h
 . exact .inr (.inl h)
 . rcases h with rfl | rfl
   . exact .inr (.inr ⟨0,b0,s0,_,by rfl,by decide +kernel,e,sQ,e0,z,o0,GK,rfl⟩)
   . exact .inr (.inr ⟨0,b0,s0,_,by rfl,by decide +kernel,e,sQ,e0,z,o0,HO,rfl⟩)
 . rcases h with rfl | rfl
   . exact .inr (.inr ⟨1,b1,s1,_,by rfl,by decide +kernel,e,yV,e1,z,o1,C7,rfl⟩)
   . exact .inr (.inr ⟨1,b1,s1,_,by rfl,by decide +kernel,e,yV,e1,z,o1,CQ,rfl⟩)
 . rcases h with rfl | rfl
   . exact .inr (.inr ⟨2,b2,s2,_,by rfl,by decide +kernel,e,y6,e2,z,o2,Eg,rfl⟩)
   . exact .inr (.inr ⟨2,b2,s2,_,by rfl,by decide +kernel,e,y6,e2,z,o2,Bk,rfl⟩)
 . rcases h with rfl | rfl
   . exact .inr (.inr ⟨3,b3,s3,_,by rfl,by decide +kernel,e,Dl,e3,z,o3,Gj,rfl⟩)
   . exact .inr (.inr ⟨3,b3,s3,_,by rfl,by decide +kernel,e,Dl,e3,z,o3,E6,rfl⟩)
theorem Gm(c0:0<=c)(c1:c < 4): ∃ n ,2<=n/\n<=1000/\fK [PV.int 2,.int 3,.int 7,.int 1000] c=fI (.int n):=by
 rcases(show c=0\/c=1\/c=2\/c=3 by omega) with rfl | rfl | rfl | rfl<;>exact⟨_,by decide,by decide,rfl⟩
section
variable{pg:Tb}(T:bH pg)
include T
theorem HH j fr {ps ks:List Str} (p0:0 < ps.length) (p9:ps.length<=1000) (hL: ∀ x∈ps,x∈L) (k0:0 < ks.length) (k9:ks.length<=1000) (hK: ∀ x∈ks,ve s0 s1 s2 s3 x) q (N:Cn J nn s0 s1 s2 s3) (ep:J[np]?=fI (.lst (ps.map PV.str))) (ek:J[nk]?=fI (.lst (ks.map PV.str))) :
  ∃(r:Rw)(q':Int × Int × Int),(∀ n,fF L n r)/\Cz s0 s1 s2 s3 r/\run pg (j+5) "_law_touch_row" [.ref 1,.ref (nn+1+1),.ref (np+1+1),.ref (nk+1+1)] (fr::bV q::J)= .ok (bO r) (fr::bV q'::J):=by
 obtain⟨a,q1,a0,a1,ea⟩:=cC T (j+3) fr q ks.length (by omega) (by omega);obtain⟨x,hx,ex⟩:=om a0 a1;obtain⟨b,q2,b0,b1,eb⟩:=cC T (j+3) fr q1 ps.length (by omega) (by omega);obtain⟨y,hy,ey⟩:=om b0 b1;have yL:=hL y hy;rcases Hw N (hK x hx) with rfl | rfl | ⟨i,bb,s,rf,v1,v2,v3,v4,v5,v6,v7,cl,sv⟩
 . refine ⟨.clock y,q2,λ_=>yL,(λ_ _ h=>by cases h),?_⟩;have m1:(SO "clock")∈(["clock", "lot"]:List Str):=by decide +kernel
   rw [run_eq T.cB rfl];simp? [bo,bT,ek,ep,xn,ea,ex,eb,ey,wH,m1,bO,Rw.w,Rw.ps];exact mN
 . obtain ⟨c,q3,c0,c1,ec⟩:=cC T (j+3) fr q2 4 (by decide) (by decide);obtain ⟨n,n0,n9,en⟩:=Gm c0 c1;refine ⟨.lot y n,q3,λ_=>⟨yL,n0,n9⟩,(λ_ _ h=>by cases h),?_⟩;have m1:(SO "lot")∈(["clock", "lot"]:List Str):=by decide +kernel
   rw [run_eq T.cB rfl];simp? [bo,bT,ek,ep,xn,ea,ex,eb,ey,wH,m1,ec,en,bO,Rw.w,Rw.ps];exact dY rfl
 . have sp:=ZS.mpr v6;have sl:=v7.1;obtain⟨c,q3,c0,c1,ec⟩:=cC T (j+3) fr q2 s.length (by omega) (by omega);obtain⟨t,ht,et⟩:=om c0 c1;have rin: ∀{r:Rw},Dn r i t->Cz s0 s1 s2 s3 r:=λh k u e=>by obtain⟨rfl,rfl⟩:=h k u e;rw[<- sv];exact ht
   have old: ∀{n:Nat}{o:PO}(g:PH),J[n]?=fI o->(J++g)[n]?=fI o:=λg e=>(aq (aC e)).trans e;have dk:Nv (J.length+1+1) [((.inr "get"),PV.int 0),(.inr "put",.int 0),(.inr "take",.int 1),(.inr "free",.int 1),(.inr "send",.int 2),(.inr "fetch",.int 2),(.inr "say",.int 3),(.inr "hear",.int 3)] (fr::bV q2::(J++[.bu []]))= .ok (.ref (J.length+1+1)) (fr::bV q2::(J++[.bu EW])):=by
    have:=AK (h:=fr::bV q2::J) (kvs:=EW) (by simp[EW]);rw[DU] at this;exact this
   have w3:=old [.bu EW] v3;have w5:=old [.bu EW] v5;rcases cl with⟨g1,g2⟩ | ⟨g1,g2,g3⟩ | ⟨g1,g2,g3⟩
   . obtain⟨r,r1,r2,r3,r4⟩:=g2 y t;have rv:bO r= .tup [.str x,.str y,.str t]:=by unfold bO;rw[r1,r2]
     refine⟨r,q3,λn=>r3 L n yL,rin r4,?_⟩;rw[rv,run_eq T.cB rfl];simp? [bo,bT,ek,ep,xn,ea,ex,eb,ey,wH,v2,nF,qe,ni,qv,rh,qM,dk,v1,w3,v4,w5,ec,et,CO,g1];exact dY rfl
   . obtain⟨r,r1,r2,r3,r4⟩:=g3 t;have rv:bO r= .tup [.str x,.str t]:=by unfold bO;rw[r1,r2]
     refine⟨r,q3,λn=>r3 L n,rin r4,?_⟩;rw[rv,run_eq T.cB rfl];simp? [bo,bT,ek,ep,xn,ea,ex,eb,ey,wH,v2,nF,qe,ni,qv,rh,qM,dk,v1,w3,v4,w5,ec,et,CO,g1,JB,g2];exact dY rfl
   . obtain⟨e,q4,h1,h2,h3,h4⟩:=yr T j fr p0 p9 2 q3 (J++[.bu EW]) (old [.bu EW] ep);have hs:jY e:=⟨h1,by omega⟩
     obtain⟨r,r1,r2,r3,r4⟩:=g3 t e;have rv:bO r= .tup [.str x,.str t,lU e]:=by unfold bO;rw[r1,r2]
     refine⟨r,q4,λn=>r3 L n hs,rin r4,?_⟩;have h4':run pg (j+4) "_law_sum" [.ref 1,.ref (np+1+1),.int 2] (fr::bV q3::(J++[.bu EW]))=_:=h4;rw[rv,run_eq T.cB rfl];simp? [bo,bT,ek,ep,xn,ea,ex,eb,ey,wH,v2,nF,qe,ni,qv,rh,qM,dk,v1,w3,v4,w5,ec,et,CO,g1,JB,g2,h4'];exact dY (by simp[PV.flat,PV.bh,fJ])
end
structure KE(H:PH)(nd:Nat)(e:PV × List Str × List Str):Prop where
 at_: ∃(i:Int)(q b:Nat)(rf:List PV),e.1= .tup [.int i,.ref q]/\H[nd]?=fI (.lst rf)/\fK rf i=fI (.ref b)/\H[b]?=fI (.lst (e.2.2.map PV.str))/\H[q]?=fI (.lst (e.2.1.map PV.str))
 ok: ∀ x∈e.2.2,TK x=true
 le:e.2.1.length<=4
theorem KE.app(h:KE H nd e):KE (H++g) nd e:=by
 obtain⟨i,q,b,rf,h1,h2,h3,h4,h5⟩:=h.at_;exact⟨⟨i,q,b,rf,h1,(aq (aC h2)).trans h2,h3,(aq (aC h4)).trans h4,(aq (aC h5)).trans h5⟩,h.ok,h.le⟩
noncomputable def kG:=(gT 2 (ax (gN 4) (ax (gN 5) bN)))
noncomputable def kB:=(bS (aF (ao kR (ao aE (aa 1) (aa 4)) (bA aj))) (ak (ao aV (ao aV (aa 3) (aa 5)) (aa 5)) (gN 3)) cD)
theorem aaI c {ks:List Str} (E:KE H nd e) (e4:H[cc]?=fI (.lst (ks.map PV.str))) (hl:ks.length<=900) a0 a2 u4 u5 n6 n7 n8 n9 :
  ∃(g':PH)(c':Nat)(ks':List Str)(v4 v5:Option PV),(H++g')[c']?=fI (.lst (ks'.map PV.str))/\cc<=c'/\ks.length<=ks'.length/\ks'.length<=ks.length+10/\(∀ x∈ks',x∈ks\/(e.2.2≠[]/\x∈e.2.1)) /\
   aW kG kB c e.1 [a0,fI (.ref nd),a2,fI (.ref cc),u4,u5,n6,n7,n8,n9] H= .ok (.nx [a0,fI (.ref nd),a2,fI (.ref c'),v4,v5,n6,n7,n8,n9]) (H++g'):=by
 obtain⟨i,q,b,rf,h1,e1,e2,e3,e5⟩:=E.at_;obtain⟨it,qs,ss⟩:=e;simp only at h1 e3 e5 ⊢;subst h1;have hq:qs.length<=4:=E.le;have l3:=aC e3;have l4:=aC e4;have l5:=aC e5;have ne:=ne_nil (h:=H++[.lst []]) (ss:=ss) (by rw[aq l3];exact e3) aT E.ok;by_cases z:ss=[]
 . refine⟨[.lst []],cc,ks,fI (.int i),fI (.ref q),by rw[aq l4];exact e4,Si _,Si _,by omega,λx m=> .inl m,?_⟩;simp? [kG,kB,e1,e2,ne,z]
 . have ad1:=mK (h:=H++[.lst []]) (by rw[aq l4];exact e4) (by rw[aq l5];exact e5) (by rw[xn,xn];omega);have ad2:aV (.ref (H.length+(0+1))) (.ref q) (H++[.lst [],.lst (ks.map PV.str++qs.map PV.str)])= .ok (.ref (H.length+(0+1+1))) (H++[.lst [],.lst (ks.map PV.str++qs.map PV.str),.lst (ks.map PV.str++qs.map PV.str++qs.map PV.str)]):=by
    have:=mK (h:=H++[.lst [],.lst (ks.map PV.str++qs.map PV.str)]) (n:=H.length+(0+1)) (m:=q) (xs:=ks.map PV.str++qs.map PV.str) (ys:=qs.map PV.str) (by rw[aP];rfl) (by rw[aq l5];exact e5) (by rw[Sj,xn,xn];omega);simpa using this
   refine⟨[.lst [],.lst (ks.map PV.str++qs.map PV.str),.lst (ks.map PV.str++qs.map PV.str++qs.map PV.str)],H.length+(0+1+1),ks++qs++qs,fI (.int i),fI (.ref q),by rw[aP,SH,SH];rfl,by omega,by simp only[Sj];omega,by simp only[Sj];omega,λx m=>?_,?_⟩
   . simp_all
   . simp? [kG,kB,e1,e2,ne,z,ad1,ad2]
theorem Ot c xs0 a0 a2 n6 n7 n8 n9: ∀(es:List (PV × List Str × List Str)) H cc(ks:List Str) u4 u5,(∀ e∈es,KE H nd e)->H[cc]?=fI (.lst (ks.map PV.str))->H[n0]?=fI (.lst xs0)->ks.length+10*es.length<=900 ->
  ∃(g':PH)(c':Nat)(ks':List Str)(v4 v5:Option PV),(H++g')[c']?=fI (.lst (ks'.map PV.str))/\cc<=c'/\ks.length<=ks'.length/\ks'.length<=ks.length+10*es.length/\(∀ x∈ks',x∈ks\/ ∃ e∈es,e.2.2≠[]/\x∈e.2.1) /\
   bK ⟨fI n0,xs0⟩ (aW kG kB c) (es.map (·.1)) [a0,fI (.ref nd),a2,fI (.ref cc),u4,u5,n6,n7,n8,n9] H= .ok (.nx [a0,fI (.ref nd),a2,fI (.ref c'),v4,v5,n6,n7,n8,n9]) (H++g'):=by
 intro es
 induction es with
 | nil=>intro H cc ks u4 u5 _ e4 e0 _;exact⟨[],cc,ks,u4,u5,by rw[SA];exact e4,Si _,Si _,by simp,λx m=> .inl m,by rw[SA];exact mL (bE e0)⟩
 | cons e es ih =>
  intro H cc ks u4 u5 hE e4 e0 hl
  rw[Sb] at hl
  obtain⟨g1,c1,k1,v4,v5,f1,f0,f2,f3,f4,f5⟩:=aaI c (hE e So) e4 (by omega) a0 a2 u4 u5 n6 n7 n8 n9
  obtain⟨g2,c2,k2,w4,w5,i1,i0,i2,i3,i4,i5⟩:=ih _ c1 k1 v4 v5 (λx m=>(hE x (Sk _ m)).app) f1 ((aq (aC e0)).trans e0) (by omega)
  refine⟨g1++g2,c2,k2,w4,w5,by rw[<- R7];exact i1,by omega,by omega,by rw[Sb];omega,λx m=>?_,?_⟩
  . rcases i4 x m with m | ⟨e',m',z⟩
    . rcases f4 x m with m | z
      . exact .inl m
      . exact .inr ⟨e,So,z⟩
    . exact .inr ⟨e',Sk _ m',z⟩
  . rw[R9,gY (bE e0),f5,cK,bL,i5,R7]
theorem GF(a0:0<=a)(a1:a < 4)(b0:0<=b)(b1:b < 8)(c0:c=0\/c=1): ∃ m ,0<=m/\m<=10/\fK [PV.int a,.int (3+b)] c=fI (.int m):=by
 rcases c0 with rfl | rfl
 . exact⟨a,a0,by omega,sQ⟩
 . exact⟨3+b,by omega,by omega,yV⟩
noncomputable def Nx:=(ag (ak (ai "_law_take" (a2 (aa 0) (eI 8))) (gN 9)) (bS (mQ (aa 9) (eI 0)) (cf (eM aS bD (aa 7) (ae (aw (ae (eS "let") (ae (ao aE (aa 2) (ai "_law_take" (ae (aa 0) (ae (eB bG (a1 (aa 2))) aj)))) (ae (ai "_law_sum" (a3 (aa 0) (aa 2) (eI 2))) aj)))) aj))) (bS (mQ (aa 9) (eI 1)) (cf (eM aS bD (aa 7) (ae (aw (ae (eS "leap") (ae (ai "_law_take" (ae (aa 0) (ae (ao aV (aa 6) (eI 1)) aj))) (ae (ai "_law_sum" (a3 (aa 0) (aa 2) (eI 2))) aj)))) aj))) (cf (eM aS bD (aa 7) (ae (ai "_law_touch_row" (ae (aa 0) (a3 (aa 1) (aa 2) (aa 3)))) aj))))))
section
variable{pg:Tb}(T:bH pg)
include T
theorem BF j fr {ps ks:List Str} (p0:0 < ps.length) (p9:ps.length<=1000) (hL: ∀ x∈ps,x∈L) (k0:0 < ks.length) (k9:ks.length<=1000) (hK: ∀ x∈ks,ve s0 s1 s2 s3 x) (N:Cn J nn s0 s1 s2 s3) (ep:J[np]?=fI (.lst (ps.map PV.str))) (ek:J[nk]?=fI (.lst (ks.map PV.str))) (m9:m<=10) xs0 a4 a5 :
  ∀ its rs q a8 a9,rs.length+its.length<=1000 ->
  ∃(rs':List Rw)(q':Int × Int × Int)(b8 b9:Option PV),rs'.length=its.length/\(∀ r∈rs',fF L m r/\Cz s0 s1 s2 s3 r) /\
   bK ⟨ox,xs0⟩ (aW (gN 8) Nx (run pg (j+5))) its [fI (.ref 1),fI (.ref (nn+1+1)),fI (.ref (np+1+1)),fI (.ref (nk+1+1)),a4,a5,fI (.int m),fI (.ref (J.length+1+1)),a8,a9] (fr::bV q::(J++[.lst (rs.map bO)])) =
   .ok (.nx [fI (.ref 1),fI (.ref (nn+1+1)),fI (.ref (np+1+1)),fI (.ref (nk+1+1)),a4,a5,fI (.int m),fI (.ref (J.length+1+1)),b8,b9]) (fr::bV q'::(J++[.lst ((rs++rs').map bO)])):=by
 intro its
 induction its with
 | nil=>intro rs q a8 a9 _;exact⟨[],q,a8,a9,rfl,(λr m=>by cases m),by rw[SA];exact jy⟩
 | cons x its ih =>
  intro rs q a8 a9 hl
  rw[Sb] at hl
  obtain⟨w,q1,w0,w1,ew⟩:=cC T (j+4) fr q 8 (by decide) (by decide)
  have hz:(rs.map bO).length < 16777216:=by rw[xn];omega
  have ep':(J++[PO.lst (rs.map bO)])[np]?=fI (.lst (ps.map PV.str)):=by rw[aq (aC ep)];exact ep
  have ek':(J++[PO.lst (rs.map bO)])[nk]?=fI (.lst (ks.map PV.str)):=by rw[aq (aC ek)];exact ek
  suffices st: ∃(r:Rw)(q2:Int × Int × Int)(u9:Option PV),(fF L m r/\Cz s0 s1 s2 s3 r)/\aW (gN 8) Nx _ x _ _= .ok _ _ by
   obtain⟨r,q2,u9,hr,st⟩:=st;obtain⟨rs',q',b8,b9,i1,i2,i3⟩:=ih (rs++[r]) q2 (fI x) u9 (by simp only[Sj,Sb,S4];omega);refine⟨r::rs',q',b8,b9,by rw[Sb,Sb,i1],λz m=>?_,?_⟩
   . rcases Sd.mp m with rfl | m
     . exact hr
     . exact i2 z m
   . rw[SH,R9,SF] at i3;rw[fN,st,cK,bL,i3,R7];rfl
  by_cases z0:w=0
  . subst z0;obtain⟨b,q2,b0,b1,eb⟩:=cC T (j+4) fr q1 ps.length (by omega) (by omega);obtain⟨y,hy,ey⟩:=om b0 b1;obtain⟨e,q3,h1,h2,h3,h4⟩:=yr T (j+1) fr p0 p9 2 q2 (J++[.lst (rs.map bO)]) ep';have h4':run pg (j+5) "_law_sum" [.ref 1,.ref (np+1+1),.int 2] (fr::bV q2::(J++[.lst (rs.map bO)]))=_:=h4;have hs:jY e:=⟨h1,by omega⟩
    refine⟨.let_ y e,q3,fI (.int 0),⟨⟨hL y hy,hs⟩,(λ_ _ h=>by cases h)⟩,?_⟩;simp? [Nx,ew,ep',xn,eb,ey,h4',pA hz,bO,Rw.w,Rw.ps]
  by_cases z1:w=1
  . subst z1;obtain⟨b,q2,b0,b1,eb⟩:=cC T (j+4) fr q1 ((m)+1) (by omega) (by omega);obtain⟨e,q3,h1,h2,h3,h4⟩:=yr T (j+1) fr p0 p9 2 q2 (J++[.lst (rs.map bO)]) ep';have h4':run pg (j+5) "_law_sum" [.ref 1,.ref (np+1+1),.int 2] (fr::bV q2::(J++[.lst (rs.map bO)]))=_:=h4;have hs:jY e:=⟨h1,by omega⟩
    refine⟨.leap b e,q3,fI (.int 1),⟨⟨b0,by omega,hs⟩,(λ_ _ h=>by cases h)⟩,?_⟩;simp? [Nx,ew,eb,h4',pA hz,bO,Rw.w,Rw.ps]
  . obtain⟨r,q2,h1,h2,h3⟩:=HH T j fr p0 p9 hL k0 k9 hK q1 N.app ep' ek';refine⟨r,q2,fI (.int w),⟨h1 m,h2⟩,?_⟩;simp? [Nx,ew,z0,z1,h3,pA hz]
end
noncomputable def kF:=(jv (iC (bA (ae (aw (ae (eI 0) (ae (bA (a2 (eS "get") (eS "put"))) aj))) (ae (aw (ae (eI 1) (ae (bA (a2 (eS "take") (eS "free"))) aj))) (ae (aw (ae (eI 2) (ae (bA (a2 (eS "send") (eS "fetch"))) aj))) (ae (aw (ae (eI 3) (ae (bA (a2 (eS "say") (eS "hear"))) aj))) aj)))))) kG kB)
theorem Of c fr q (N:Cn J nn s0 s1 s2 s3) a0 a2 :
  ∃(g':PH)(nk:Nat)(ks:List Str)(v4 v5:Option PV),(J++g')[nk]?=fI (.lst (ks.map PV.str))/\0 < ks.length/\ks.length<=1000/\(∀ x∈ks,ve s0 s1 s2 s3 x) /\
   kF c [a0,fI (.ref (nn+1+1)),a2,fI (.ref (J.length+1+1)),ox,ox,ox,ox,ox,ox] (fr::bV q::(J++[.lst [.str "clock",.str "lot"]]))= .ok (.nx [a0,fI (.ref (nn+1+1)),a2,fI (.ref (nk+1+1)),v4,v5,ox,ox,ox,ox]) (fr::bV q::(J++g')):=by
 obtain ⟨b0,b1,b2,b3,e,e0,e1,e2,e3⟩:=N.at_;obtain ⟨o0,o1,o2,o3⟩:=N.ok
 let m:=J.length
 let es:List (PV × List Str × List Str):=[(.tup [.int 0,.ref (m+(0+1)+1+1)],["get", "put"],s0),(.tup [.int 1,.ref (m+(0+1+1)+1+1)],["take", "free"],s1),(.tup [.int 2,.ref (m+(0+1+1+1)+1+1)],["send", "fetch"],s2),(.tup [.int 3,.ref (m+(0+1+1+1+1)+1+1)],["say", "hear"],s3)]
 let Y:PH:=[.lst [.str "clock",.str "lot"],.lst [.str "get",.str "put"],.lst [.str "take",.str "free"],.lst [.str "send",.str "fetch"],.lst [.str "say",.str "hear"],.lst (es.map (·.1))]
 have old: ∀{n:Nat}{o:PO},J[n]?=fI o->(fr::bV q::(J++Y))[n+1+1]?=fI o:=λe=>by
  exact (aq (aC e)).trans e
 have new: ∀(i:Nat),(fr::bV q::(J++Y))[m+i+1+1]?=Y[i]?:=λi=>by
  exact aP
 have hE: ∀ x∈es,KE _ _ x:=λx mx=>by
  simp only[es,Sd,Sp,or_false] at mx;rcases mx with rfl | rfl | rfl | rfl
  . exact⟨⟨0,_,b0+1+1,_,rfl,old e,sQ,old e0,by rw[new];rfl⟩,λx m=>(o0.2 x m).2,by simp⟩
  . exact ⟨⟨1,_,b1+1+1,_,rfl,old e,yV,old e1,by rw [new];rfl⟩,λx m=>(o1.2 x m).2,by simp⟩
  . exact ⟨⟨2,_,b2+1+1,_,rfl,old e,y6,old e2,by rw [new];rfl⟩,λx m=>(o2.2 x m).2,by simp⟩
  . exact ⟨⟨3,_,b3+1+1,_,rfl,old e,Dl,old e3,by rw [new];rfl⟩,λx m=>(o3.2 x m).2,by simp⟩
 obtain ⟨g1,c1,ks,v4,v5,f1,f0,f2,f3,f4,f5⟩:=Ot c (n0:=m+(0+1+1+1+1+1)+1+1) _ a0 a2 ox ox ox ox es _ (m+1+1) ["clock", "lot"] ox ox hE (new 0) (by rw [new];rfl) (by simp [es]);obtain ⟨nk,rfl⟩: ∃ nk,c1=nk+1+1:=⟨c1 - 2,by omega⟩
 refine ⟨Y++g1,nk,ks,v4,v5,?_,SK (by simp) f2,Sx f3 (by simp [es]),λx mx=>?_,?_⟩
 . rw [TA,TA,S5,R7] at f1;exact f1
 . rcases f4 x mx with mx | ⟨e',m',z,mx⟩
   . simp only[Sd,Sp,or_false] at mx;rcases mx with h | h
     . exact .inl h
     . exact .inr (.inl h)
   . simp only[es,Sd,Sp,or_false] at m';rcases m' with rfl | rfl | rfl | rfl<;>simp only[Sd,Sp,or_false] at mx z
     . exact .inr (.inr (.inl ⟨z,mx⟩))
     . exact .inr (.inr (.inr (.inl ⟨z,mx⟩)))
     . exact .inr (.inr (.inr (.inr (.inl ⟨z,mx⟩))))
     . exact .inr (.inr (.inr (.inr (.inr ⟨z,mx⟩))))
 . simp only[es,R9,SF,Y,m,TA,R7] at f5;simp? [kF,f5];rfl
section
variable{pg:Tb}(T:bH pg)
include T
theorem F0 j fr {ps:List Str} (p0:0 < ps.length) (p9:ps.length<=1000) (hL: ∀ x∈ps,x∈L) q (N:Cn J nn s0 s1 s2 s3) (ep:J[np]?=fI (.lst (ps.map PV.str))) :
  ∃(rs:List Rw)(q':Int × Int × Int),rs.length<=10/\(∀ r∈rs,fF L rs.length r/\Cz s0 s1 s2 s3 r)/\run pg (j+6) "_law_rows" [.ref 1,.ref (nn+1+1),.ref (np+1+1)] (fr::bV q::J)= .ok (bZ rs) (fr::bV q'::J):=by
 obtain⟨g1,nk,ks,v4,v5,f1,f2,f3,f4,f5⟩:=Of (run pg (j+5)) fr q N (fI (.ref 1)) (fI (.ref (np+1+1)));obtain⟨a,q1,a0,a1,ea⟩:=cC T (j+4) fr q 4 (by decide) (by decide);obtain⟨b,q2,b0,b1,eb⟩:=cC T (j+4) fr q1 8 (by decide) (by decide);obtain⟨d,q3,d0,d1,ed⟩:=cC T (j+4) fr q2 6 (by decide) (by decide);obtain⟨mi,m0,m9,em⟩:=GF a0 a1 b0 b1 (c:=if decide (0 < d)=true then 1 else 0) (by split<;>simp);obtain⟨m,rfl⟩:=Tj m0;have N':Cn (J++(g1++[.lst [.int a,.int (3+b)]])) nn s0 s1 s2 s3:=N.app;obtain⟨rs,q4,b8,b9,h1,h2,h3⟩:=BF T j fr p0 p9 hL f2 f3 f4 N' (by rw[aq (aC ep)];exact ep) (by rw[<- R7,aq (aC f1)];exact f1) (m:=m) (by omega) (aJ 0 m) v4 v5 (aJ 0 m) [] q3 ox ox (by simp[aJ];omega);have lr:(aJ 0 m).length=m:=by unfold aJ;simp
 rw[lr] at h1;refine⟨rs,q4,by omega,by rw[h1];exact h2,?_⟩;rw[SF] at h3;have tn:=SQ m;unfold kF kG kB at f5;unfold Nx at h3;simp only[Sj,Sb,S4,R7,TA,SG] at h3;rw[run_eq T.wR rfl];simp? [h7,oP,↓f5,ea,eb,ed,em,tn,h3];exact dY (oK rs)
end
noncomputable def bR(h:Str × List Rw):PV:= .tup [.str h.1,bZ h.2]
noncomputable def pB:List Str:=["a", "ab", "putter", "b", "getx", "abc", "locked", "sayer", "c", "hands", "fetched", "abcdefgh"]
theorem EB: ∀ x∈pB,nz x=true∧TK x=true:=by decide +kernel
def Dp(pl:List Str):=pl.length=12∧ ∀ x∈pl,nz x=true∧TK x=true
theorem Cr(h:Dp pl) lo hi: ∃ ss ,fQ (pl.map PV.str) lo hi=ss.map PV.str∧Cm ss:=by
 unfold fQ;refine⟨(pl.drop _).take _,by rw[WM,Yk],?_,λx m=>h.2 x (ZD (WU m))⟩;have:=h.1;simp only[TM,Vg];omega
theorem yy{xs:List Int}{v:Int}(h0:0<=v)(h1:v < xs.length): ∃ x∈xs,fK (xs.map PV.int) v=fI (.int x):=by
 obtain⟨n,en⟩:=Tj h0;subst en;have hn:n < xs.length:=by omega
 exact⟨xs[n],Uw hn,_P.dS rfl (by rw[Sq,R6 hn];rfl)⟩
def DP b (X:PH) (r:PV):= ∃(i:Nat)(ss:List Str),r= .ref (b+i+1+1)/\X[i]?=fI (.lst (ss.map PV.str))/\Cm ss
theorem DP.more(h:DP b X r) Y:DP b (X++Y) r:=by
 obtain⟨i,ss,h1,h2,h3⟩:=h;exact⟨i,ss,h1,(aq (aC h2)).trans h2,h3⟩
noncomputable def PN:=(ag (ak (ao aE (bA (ae (eI 1) (ae (eI 2) (a3 (eI 1) (eI 0) (eI 2))))) (ai "_law_take" (a2 (aa 0) (eI 5)))) (gN 5)) (cf (eM aS bD (aa 3) (ae (t9 (aa 1) (cL (ao dH (eI 2) (aa 4))) (cL (ao aV (ao dH (eI 2) (aa 4)) (aa 5)))) aj))))
noncomputable def PS:=(aw (ae (aa 10) (ae (ao aE (bA (ae (eI 0) (a3 (eI 5) (eI 999) (eI 1)))) (ai "_law_take" (a2 (aa 0) (eI 4)))) aj)))
section
variable{pg:Tb}(T:bH pg)
include T
theorem zC j fr (hp:Dp pl) {J:PH} (ep:J[np]?=fI (.lst (pl.map PV.str))) xs0 e2 e6 e7 e8 e9 :
  ∀(its:List Int) refs X q e4 e5,refs.length+its.length<=1000->(∀ r∈refs,DP (J.length+1) X r) ->
  ∃(refs':List PV)(X':PH)(q':Int × Int × Int)(f4 f5:Option PV),refs'.length=refs.length+its.length/\(∀ r∈refs',DP (J.length+1) X' r) /\
   bK ⟨ox,xs0⟩ (aW (gN 4) PN (run pg (j+1))) (its.map PV.int) [fI (.ref 1),fI (.ref (np+1+1)),e2,fI (.ref (J.length+1+1)),e4,e5,e6,e7,e8,e9] (fr::bV q::(J++ .lst refs::X))= .ok (.nx [fI (.ref 1),fI (.ref (np+1+1)),e2,fI (.ref (J.length+1+1)),f4,f5,e6,e7,e8,e9]) (fr::bV q'::(J++ .lst refs'::X')):=by
 intro its
 induction its with
 | nil=>intro refs X q e4 e5 _ h;exact⟨refs,X,q,e4,e5,rfl,h,jy⟩
 | cons i its ih =>
  intro refs X q e4 e5 hl h
  rw[Sb] at hl
  let W:List PV:=[.int 1,.int 2,.int 1,.int 0,.int 2]
  obtain⟨a,q1,a0,a1,ea⟩:=cC T j fr q 5 (by decide) (by decide)
  obtain⟨m,mm,em⟩:=yy (xs:=[1,2,1,0,2]) a0 (by simpa using a1)
  have em':fK [PV.int 1,.int 2,.int 1,.int 0,.int 2] a=fI _:=em
  obtain⟨ss,ec,hs⟩:=Cr hp (fI (2*i)) (fI (2*i+m))
  have old: ∀ Y:PH,(J++Y)[np]?=fI _:=λY=>(aq (aC ep)).trans ep
  have hz:refs.length < 16777216:=by omega
  obtain⟨refs',X',q',f4,f5,h1,h2,h3⟩:=ih (refs++[.ref _]) (X++[.lst W,.lst _]) q1 _ _ (by simp only[Sj,Sb,S4];omega) (λr mr=>by
   rcases Ti.mp mr with mr | mr
   . exact(h r mr).more _
   . rw[Sf.mp mr];exact⟨X.length+1,ss,rfl,by rw[aP];rfl,hs⟩)
  refine⟨refs',X',q',f4,f5,by rw[h1];simp only[Sj,Sb,S4];omega,h2,?_⟩
  have st:aW (gN 4) PN (run pg (j+1)) (.int i) [fI (.ref 1),fI (.ref (np+1+1)),e2,fI (.ref (J.length+1+1)),e4,e5,e6,e7,e8,e9] (fr::bV q::(J++ .lst refs::X))= .ok (.nx [fI (.ref 1),fI (.ref (np+1+1)),e2,fI (.ref (J.length+1+1)),fI (.int i),fI (.int m),e6,e7,e8,e9]) (fr::bV q1::(J++ .lst (refs++[.ref (J.length+1+(X.length+1)+1+1)])::(X++[.lst W,.lst (ss.map PV.str)]))):=by
   have ar:J.length+(X.length+(0+1)+1)=J.length+1+(X.length+1):=by omega
   simp? [PN,W,ea,em',old,ec,pA hz,ar]
  rw[R9,fN,st,cK,bL]
  exact h3
theorem aaz j fr {s0:List Str} e1 e2 e3 e4 e5 e6 e7 e8 e9 :
  ∀ xs ys(J:PH) q,J[b]?=fI (.lst (s0.map PV.str))->ys.length+xs.length<=1000-> ∃(bs:List (Str × Int))(X:PH)(q':Int × Int × Int),bs.map (·.1)=xs/\(∀ z∈bs,0<=z.2/\z.2<=999) /\
   _P.dU ⟨fI (b+1+1),s0.map PV.str⟩ (aM 1 (gN 10) aK PS (run pg (j+1)) [fI (.ref 1),e1,e2,e3,e4,e5,e6,e7,e8,e9]) (xs.map PV.str) ys (fr::bV q::J)= .ok (ys++bs.map eW) (fr::bV q'::(J++X)):=by
 have fi: ∀{J:PH}(q:Int × Int × Int),J[b]?=fI _->kC.ir ⟨fI (b+1+1),s0.map PV.str⟩ (fr::bV q::J)=true:=λ{J} q h=>bE (show J[b]?=_ from h);intro xs
 induction xs with
 | nil=>intro ys J q h1 _;exact⟨[],[],q,rfl,λz m=>(by cases m),by rw[SF,_P.dU,if_pos (fi q h1)];simp⟩
 | cons x xs ih =>
  intro ys J q h1 hl
  rw[Sb] at hl
  obtain⟨a,q1,a0,a1,ea⟩:=cC T j fr q 4 (by decide) (by decide)
  obtain⟨m,mm,em⟩:=yy (xs:=[0,5,999,1]) a0 (by omega)
  have em':fK [PV.int 0,.int 5,.int 999,.int 1] a=fI _:=em
  have hm:0<=m/\m<=999:=by
   grind
  obtain⟨bs,X,q',i1,i2,i3⟩:=ih (ys++[eW (x,m)]) (J++[.lst _]) q1 ((aq (aC h1)).trans h1) (by simp only[Sj,Sb,S4];omega)
  refine⟨(x,m)::bs,.lst [.int 0,.int 5,.int 999,.int 1]::X,q',by simp_all,λz mz=>?_,?_⟩
  . rcases Sd.mp mz with rfl | mz
    . exact hm
    . exact i2 z mz
  have hz:ys.length < sizeLine:=SK (show ys.length < 1001 by omega) (by decide)
  have st:aM 1 (gN 10) aK PS (run pg (j+1)) [fI (.ref 1),e1,e2,e3,e4,e5,e6,e7,e8,e9] (.str x) (fr::bV q::J)= .ok (fI (eW (x,m))) (fr::bV q1::(J++[.lst [.int 0,.int 5,.int 999,.int 1]])):=by
   simp? [PS,ea,em',eW]
  rw[R9,_P.dU,if_pos ⟨fi q h1,hz⟩,st,d9]
  simpa using i3
end
def mC s0 s1 s2 s3 (h:Str × List Rw):=h.2.length<=10/\ ∃ L ,L.length<=6/\(∀ x∈L,yg x=true)/\ ∀ r∈h.2,fF L h.2.length r/\Cz s0 s1 s2 s3 r
noncomputable def PJ:=(vK (aF (ao kR (eX 3 0) (bA aj))) (ao aE (eX 3 0) (eI 0)) (eS "q"))
noncomputable def P4:=(ag (ak (t9 (bA (ae (eS "p") (ae PJ (ae (eS "pp") (ae (ao aE (aa 1) (ao aV (eI 8) (aa 8))) aj))))) fR (cL (ao aV (eI 1) (ai "_law_take" (a2 (aa 0) (eI 4)))))) (gN 9)) (cf (eM aS bD (aa 7) (ae (aw (ae (ao aE (aa 1) (ao aV (eI 8) (aa 8))) (ae (ai "_law_rows" (a3 (aa 0) (aa 3) (aa 9))) aj))) aj))))
theorem BM h:(bR h).flat=true:=by simp[bR,PV.flat,PV.bh,bZ,oK]
section
variable{pg:Tb}(T:bH pg)
include T
omit T in
theorem aan{nn:Nat}{s0 s1 s2 s3:List Str}{W:PH}(N:Cn W nn s0 s1 s2 s3)(c:CF)(A B:PO)(a0 a1 a2 a4 a5 a6 a7 a8 a9:Option PV): ∃ x:Str,yg x=true/\PJ c [a0,a1,a2,fI (.ref (nn+1+1)),a4,a5,a6,a7,a8,a9] (A::B::W)= .ok (.str x) (A::B::(W++[.lst []])):=by
 obtain⟨b0,b1,b2,b3,e,e0,_⟩:=N.at_;have o0:=N.ok.1;have i0: ∀ X:PH,aE (.ref (nn+1+1)) (.int 0) (A::B::(W++X))= .ok (.ref (b0+1+1)) (A::B::(W++X)):=λX=>by
  have z:(A::B::(W++X))[nn+1+1]?=fI (.lst [.ref (b0+1+1),.ref (b1+1+1),.ref (b2+1+1),.ref (b3+1+1)]):=(aq (aC e)).trans e;rw[oM,z,ph,sQ];rfl
 have i0':=i0 [];rw[SA] at i0';have z0:(A::B::(W++[.lst []]))[b0+1+1]?=fI (.lst (s0.map PV.str)):=(aq (aC e0)).trans e0;have zn:(A::B::(W++[PO.lst []]))[W.length+1+1]?=fI (.lst []):=by rw[S5,S5];exact aT
 have ne:=ne_nil (h:=A::B::(W++[.lst []])) (n:=b0+1+1) (m:=W.length+1+1) (ss:=s0) z0 zn (λx m=>(o0.2 x m).2);cases s0 with
 | nil =>
  refine⟨"q",by decide +kernel,?_⟩
  simp? [PJ,i0',ne]
 | cons x r =>
  refine⟨x,tE (o0.2 x So).1,?_⟩
  have i1:aE (.ref (b0+1+1)) (.int 0) (A::B::(W++[.lst []]))= .ok (.str x) (A::B::(W++[.lst []])):=by
   rw[oM,z0,ph,R9,sQ];rfl
  have i2:=i0 [.lst []]
  simp? [PJ,i0',ne,i2,i1]
theorem yu j fr (hp:Dp pl) (ep:J[np]?=fI (.lst (pl.map PV.str))) (N:Cn J nn s0 s1 s2 s3) xs0 e2 e4 e5 e6 :
  ∀(its:List Nat)(hs:List (Str × List Rw))(X:PH) q e8 e9,(∀ i∈its,i < 4)->hs.length+its.length<=1000->(∀ h∈hs,mC s0 s1 s2 s3 h) ->
  ∃(hs':List (Str × List Rw))(X':PH)(q':Int × Int × Int)(f8 f9:Option PV),hs'.length=hs.length+its.length/\(∀ h∈hs',mC s0 s1 s2 s3 h) /\
   bK ⟨ox,xs0⟩ (aW (gN 8) P4 (run pg (j+6))) (its.map λi:Nat=>PV.int (0+(i))) [fI (.ref 1),fI (.ref (np+1+1)),e2,fI (.ref (nn+1+1)),e4,e5,e6,fI (.ref (J.length+1+1)),e8,e9] (fr::bV q::(J++ .lst (hs.map bR)::X))= .ok (.nx [fI (.ref 1),fI (.ref (np+1+1)),e2,fI (.ref (nn+1+1)),e4,e5,e6,fI (.ref (J.length+1+1)),f8,f9]) (fr::bV q'::(J++ .lst (hs'.map bR)::X')):=by
 intro its
 induction its with
 | nil=>intro hs X q e8 e9 _ _ h;exact⟨hs,X,q,e8,e9,rfl,h,jy⟩
 | cons i its ih =>
  intro hs X q e8 e9 hi hl h
  rw[Sb] at hl
  have i4:=hi i So
  have iz:(0:Int)+(i:Int)=(i:Int):=Vr _
  have pl12:=hp.1
  obtain ⟨y,hy,ey⟩:=om (ss:=pl) (v:=8+(i)) (by omega) (by omega)
  obtain ⟨x,hx,ex⟩:=aan (N.app (g:= .lst (hs.map bR)::X)) (run pg (j+6)) fr (bV q) (fI (.ref 1)) (fI (.ref (np+1+1))) e2 e4 e5 e6 (fI (.ref (J.length+1+1))) (fI (.int i)) e9
  obtain ⟨w,q1,w0,w1,ew⟩:=cC T (j+5) fr q 4 (by decide) (by decide)
  let F:List Str:=["p",x, "pp",y]
  let ps:=F.take (1+w).toNat
  have hF: ∀ z∈F,yg z=true:=λz m=>by
   simp only [F,Sd,Sp,or_false] at m;rcases m with rfl | rfl | rfl | rfl
   . rfl
   . exact hx
   . rfl
   . exact tE (hp.2 _ hy).1
  have cu:fQ [PV.str "p",.str x,.str "pp",.str y] ox (fI (1+w))=ps.map PV.str:=by
   rw[_P.qz (by omega)];rw[WM];rfl
  have pl0:0 < ps.length:=by simp only[ps,F,TM,Sb,S4];omega
  have pl9:ps.length<=4:=by simp only[ps,F,TM,Sb,S4];omega
  let Y:PH:=[.lst [],.lst [.str "p",.str x,.str "pp",.str y],.lst (ps.map PV.str)]
  let W:=J++ .lst (hs.map bR)::(X++Y)
  have oldJ: ∀ Z:PH,(J++Z)[np]?=fI _:=λZ=>(aq (aC ep)).trans ep
  have epW:W[J.length+(X.length+(0+1+1)+1)]?=fI (.lst (ps.map PV.str)):=by
   rw[aP,S5,aP];rfl
  obtain⟨rs,q2,r1,r2,r3⟩:=F0 T j fr pl0 (by omega) (λz m=>m) q1 (N.app) epW
  have ho:mC s0 s1 s2 s3 (y,rs):=⟨r1,ps,by omega,λz m=>hF z (WU m),r2⟩
  obtain⟨hs',X',q',f8,f9,h1,h2,h3⟩:=ih (hs++[(y,rs)]) _ q2 _ _ (λz m=>hi z (Sk _ m)) (by simp only[Sj,Sb,S4];omega) (λz m=>by
   rcases Ti.mp m with m | m
   . exact h z m
   . rw[Sf.mp m];exact ho)
  refine⟨hs',X',q',f8,f9,by rw[h1];simp only[Sj,Sb,S4];omega,h2,?_⟩
  have hz:(hs.map bR).length < 16777216:=by rw[xn];omega
  have st:aW (gN 8) P4 (run pg (j+6)) (.int i) [fI (.ref 1),fI (.ref (np+1+1)),e2,fI (.ref (nn+1+1)),e4,e5,e6,fI (.ref (J.length+1+1)),e8,e9] (fr::bV q::(J++ .lst (hs.map bR)::X))= .ok (.nx [fI (.ref 1),fI (.ref (np+1+1)),e2,fI (.ref (nn+1+1)),e4,e5,e6,fI (.ref (J.length+1+1)),fI (.int i),fI (.ref (J.length+(X.length+(0+1+1)+1)+1+1))]) (fr::bV q2::(J++ .lst (hs.map bR++[bR (y,rs)])::(X++Y))):=by
   simp only[W,Y] at r3;simp? [P4,Y,ex,oldJ,ey,ew,cu,r3,pA hz,bR]
  rw[R9,fN,iz,st,cK,bL]
  rw[SH,R9,SF] at h3
  exact h3
end
structure PC(bs:List (Str × Int))(s1 s2 s3:List Str)(hs:List (Str × List Rw))(p:PV):Prop where
 at_:p= .tup [.tup (bs.map eW),.tup (s1.map PV.str),.tup (s2.map PV.str),.tup (s3.map PV.str),.tup (hs.map bR)]
 bx:bs.length<=20/\ ∀ z∈bs,nz z.1=true/\0<=z.2/\z.2<=999
 nm:Cm s1/\Cm s2/\Cm s3
 many:1<=hs.length/\hs.length<=4
 hd: ∀ h∈hs,mC (bs.map (·.1)) s1 s2 s3 h
theorem tF: ∀ ss:List Str,PV.bh (ss.map PV.str)=true
 | []=>rfl
 | _::r=>by rw[R9,PV.bh,tF r];rfl
theorem qw: ∀ hs:List (Str × List Rw),PV.bh (hs.map bR)=true
 | []=>rfl
 | h::r=>by rw[R9,PV.bh,BM,qw r];rfl
noncomputable def zr:=(ag (ak (eB aQ (ae (hW 1 (iC (eX 3 0)) (gN 10) aK PS) aj)) (gN 6)) (ag (ak (bA aj) (gN 7)) (ag (jv (cY (ae (ao aE (bA (ae (eI 2) (ae (eI 2) (ae (eI 3) (a3 (eI 4) (eI 1) (eI 2)))))) (ai "_law_take" (a2 (aa 0) (eI 6)))) aj)) (gN 8) P4) (aA (aw (ae (aa 6) (ae (eB aQ (a1 (eX 3 1))) (ae (eB aQ (a1 (eX 3 2))) (ae (eB aQ (a1 (eX 3 3))) (ae (eB aQ (a1 (aa 7))) aj))))))))))
section
variable{pg:Tb}(T:bH pg)
include T
theorem Ih j fr (hp:Dp pl) (ep:J[np]?=fI (.lst (pl.map PV.str))) (N:Cn J nn s0 s1 s2 s3) q e2 e4 e5 :
  ∃(bs:List (Str × Int))(hs:List (Str × List Rw))(p:PV)(q':Int × Int × Int)(X:PH),PC bs s1 s2 s3 hs p/\zr (run pg (j+6)) [fI (.ref 1),fI (.ref (np+1+1)),e2,fI (.ref (nn+1+1)),e4,e5,ox,ox,ox,ox] (fr::bV q::J)= .ok (.rt p) (fr::bV q'::(J++X)):=by
 obtain⟨b0,b1,b2,b3,e,x0,x1,x2,x3⟩:=N.at_;obtain⟨o0,o1,o2,o3⟩:=N.ok;obtain⟨bs,X1,q1,h1,h2,h3⟩:=aaz T (j+5) fr (fI (.ref (np+1+1))) e2 (fI (.ref (nn+1+1))) e4 e5 ox ox ox ox s0 [] J q x0 (by have:=o0.1;simp;omega)
 let J2:=J++(X1++[.lst (bs.map eW)])
 obtain⟨a,q2,a0,a1,ea⟩:=cC T (j+5) fr q1 6 (by decide) (by decide);obtain⟨m,mm,em⟩:=yy (xs:=[2,2,3,4,1,2]) a0 (by omega);have em':fK [PV.int 2,.int 2,.int 3,.int 4,.int 1,.int 2] a=fI _:=em;have hm:1<=m/\m<=4:=by
  simp only[Sd,Sp,or_false] at mm;omega
 have old: ∀{n:Nat}{o:PO}(Y:PH),J[n]?=fI o->(J++Y)[n]?=fI o:=λY e=>(aq (aC e)).trans e;obtain⟨hs,X2,q3,f8,f9,i1,i2,i3⟩:=yu T j fr hp (J:=J2) (old _ ep) N.app (aJ 0 m.toNat) e2 e4 e5 (fI (.tup (bs.map eW))) (S6 m.toNat) [] [.lst [.int 2,.int 2,.int 3,.int 4,.int 1,.int 2]] q2 ox ox (λi z=>by have:=UO.mp z;omega) (by simp;omega) (λh z=>by cases z);rw[show(S6 _).map (λi:Nat=>PV.int _)=aJ 0 _ from rfl] at i3;rw[U4,S4,YQ] at i1;refine⟨bs,hs,_,q3,X1++ .lst (bs.map eW):: .lst (hs.map bR)::X2,⟨rfl,⟨?_,?_⟩,⟨o1,o2,o3⟩,by omega,by rw[h1];exact i2⟩,?_⟩
 . have:=congrArg FH h1;rw[xn] at this;rw[this];exact o0.1
 . intro z mz;have:=h2 z mz;exact⟨(o0.2 z.1 (by rw[<- h1];exact SS.mpr ⟨z,mz,rfl⟩)).1,this⟩
 . have w: ∀(Y:PH)(i:Int)(b:Nat),fK _ i=fI _-> ∀ A B:PO,aE _ _ _= .ok (.ref (b+1+1)) _:=λY i b z A B=>by
    have z2:(A::B::(J++Y))[nn+1+1]?=_:=old Y e;rw[oM,z2,ph,z];rfl
   have tu: ∀(Y:PH)(b:Nat)(ss:List Str),J[b]?=fI _-> ∀ A B:PO,aQ _ _= .ok (.tup (ss.map PV.str)) _:=λY b ss z A B=>by
    have z2:(A::B::(J++Y))[b+1+1]?=_:=old Y z;rw[jb,z2,gB]
   have w0:=w [] 0 b0 sQ;rw[SA] at w0;have l0: ∀ A B:PO,(A::B::J)[b0+1+1]?=fI _:=λA B=>x0;simp only[J2,SF,R7,TA,SG,Sj,Sb,S4] at i3;simp? [zr,w0,l0,x0,h3,ea,em',i3,w _ 1 b1 yV,w _ 2 b2 y6,w _ 3 b3 Dl,tu _ b1 s1 x1,tu _ b2 s2 x2,tu _ b3 s3 x3]
end
section
variable{pg:Tb}(T:bH pg)
include T
theorem zg j fr q (g:PH) :
  ∃(bs:List (Str × Int))(s1 s2 s3:List Str)(hs:List (Str × List Rw))(p:PV)(q':Int × Int × Int),PC bs s1 s2 s3 hs p/\run pg (j+7) "_law_program" [.ref 1] (fr::bV q::g)= .ok p (fr::bV q'::g):=by
 obtain⟨t,q1,t0,t1,et⟩:=cC T (j+5) fr q 12 (by decide) (by decide);have c1:fQ (pB.map PV.str) (fI t) ox=(pB.drop t.toNat).map PV.str:=by rw[_P.mH t0,Yk]
 have c2:fQ (pB.map PV.str) ox (fI t)=(pB.take t.toNat).map PV.str:=by rw[_P.qz t0,WM]
 let pl:=pB.drop t.toNat++pB.take t.toNat
 have hp:Dp pl:=by
  refine⟨?_,λx m=>?_⟩
  . have:pB.length=12:=rfl;simp only[pl,Sj,Vg,TM,this];omega
  . rcases Ti.mp m with m | m
    . exact EB x (ZD m)
    . exact EB x (WU m)
 let J1:=g++[.lst (pB.map PV.str),.lst ((pB.drop t.toNat).map PV.str),.lst ((pB.take t.toNat).map PV.str),.lst (pl.map PV.str)]
 have ep:J1[g.length+(0+1+1+1)]?=fI (.lst (pl.map PV.str)):=by show(g++_)[_]?=_;rw[aP];rfl
 have lJ:J1.length=g.length+(0+1+1+1+1):=by simp[J1]
 obtain⟨refs,X,q2,f4,f5,h1,h2,h3⟩:=zC T (j+5) fr hp ep (aJ 0 4) (fI (.int t)) ox ox ox ox [0,1,2,3] [] [] q1 ox ox (by decide) (λr m=>by cases m);obtain⟨r0,r1,r2,r3,rfl⟩: ∃ r0 r1 r2 r3,refs=[r0,r1,r2,r3]:=by
  match refs,h1 with
  | [a,b,c,d],_=>exact⟨a,b,c,d,rfl⟩
 have at_: ∀(Y:PO)(i:Nat),(J1++Y::X)[J1.length+1+i]?=X[i]?:=λY i=>by rw[Yl,aP,YY 1 i,S5]
 obtain⟨i0,s0,rfl,z0,n0⟩:=h2 r0 (.head _);obtain⟨i1,s1,rfl,z1,n1⟩:=h2 r1 (.tail _ (.head _));obtain⟨i2,s2,rfl,z2,n2⟩:=h2 r2 (.tail _ (.tail _ (.head _)));obtain⟨i3,s3,rfl,z3,n3⟩:=h2 r3 (.tail _ (.tail _ (.tail _ (.head _))));have N:Cn (J1++ .lst [.ref (J1.length+1+i0+1+1),.ref (J1.length+1+i1+1+1),.ref (J1.length+1+i2+1+1),.ref (J1.length+1+i3+1+1)]::X) J1.length s0 s1 s2 s3 :=
  ⟨⟨_,_,_,_,aT,(at_ _ i0).trans z0,(at_ _ i1).trans z1,(at_ _ i2).trans z2,(at_ _ i3).trans z3⟩,n0,n1,n2,n3⟩
 obtain⟨bs,hs,p,q3,Z,pk,tl⟩:=Ih T j fr hp ((aq (aC ep)).trans ep) N q2 (fI (.int t)) f4 f5;refine⟨bs,s1,s2,s3,hs,p,q3,pk,?_⟩;have pf:p.flat=true:=by
  rw[pk.at_];simp only[PV.flat,PV.bh,j8,tF,qw,VS]
 have ad:aV (.ref (g.length+(0+1)+1+1)) (.ref (g.length+(0+1+1)+1+1)) (fr::bV q1::(g++[.lst (pB.map PV.str),.lst ((pB.drop t.toNat).map PV.str),.lst ((pB.take t.toNat).map PV.str)]))= .ok (.ref (g.length+(0+1+1+1)+1+1)) (fr::bV q1::J1):=by
  have e1:(fr::bV q1::(g++[PO.lst (pB.map PV.str),.lst ((pB.drop t.toNat).map PV.str),.lst ((pB.take t.toNat).map PV.str)]))[g.length+(0+1)+1+1]?=fI (.lst ((pB.drop t.toNat).map PV.str)):=by rw[S5,S5,aP];rfl
  have e2:(fr::bV q1::(g++[PO.lst (pB.map PV.str),.lst ((pB.drop t.toNat).map PV.str),.lst ((pB.take t.toNat).map PV.str)]))[g.length+(0+1+1)+1+1]?=fI (.lst ((pB.take t.toNat).map PV.str)):=by rw[S5,S5,aP];rfl
  refine(mK e1 e2 (by simp only[xn,Vg,TM];have:pB.length=12:=rfl;omega)).trans ?_;simp[J1,pl]
 have A:gG (run pg (j+6)) [fI (.ref 1),ox,ox,ox,ox,ox,ox,ox,ox,ox] (fr::bV q::g)= .ok (.rt p) (fr::bV q3::(J1++ .lst [.ref (J1.length+1+i0+1+1),.ref (J1.length+1+i1+1+1),.ref (J1.length+1+i2+1+1),.ref (J1.length+1+i3+1+1)]::X++Z)):=by
  show ag _ (ag _ (ag _ (ag _ (ag _ zr)))) _ _ _=_;refine(aR (e1:=[fI (.ref 1),fI (.ref (g.length+1+1)),ox,ox,ox,ox,ox,ox,ox,ox]) (h1:=fr::bV q::(g++[.lst (pB.map PV.str)])) ?_).trans ?_
  . simp? [SF];rfl
  refine(aR (e1:=[fI (.ref 1),fI (.ref (g.length+1+1)),fI (.int t),ox,ox,ox,ox,ox,ox,ox]) (h1:=fr::bV q1::(g++[.lst (pB.map PV.str)])) ?_).trans ?_
  . simp? [et]
  refine(aR (e1:=[fI (.ref 1),fI (.ref (g.length+(0+1+1+1)+1+1)),fI (.int t),ox,ox,ox,ox,ox,ox,ox]) (h1:=fr::bV q1::J1) ?_).trans ?_
  . simp? [c1,c2,ad]
  refine(aR (e1:=[fI (.ref 1),fI (.ref (g.length+(0+1+1+1)+1+1)),fI (.int t),fI (.ref (J1.length+1+1)),ox,ox,ox,ox,ox,ox]) (h1:=fr::bV q1::(J1++[.lst []])) ?_).trans ?_
  . simp? [SF]
  refine(aR (h1:=fr::bV q2::(J1++ .lst [.ref (J1.length+1+i0+1+1),.ref (J1.length+1+i1+1+1),.ref (J1.length+1+i2+1+1),.ref (J1.length+1+i3+1+1)]::X)) ?_).trans tl;have r4:aJ 0 (4:Int).toNat=aJ 0 4:=rfl;unfold PN at h3;simp? [↓C6,↓DA,AD,cK,AR,r4];exact h3
 rw[run_eq T.qy rfl];show fin _ (gG (run pg (j+6)) [fI (.ref 1),ox,ox,ox,ox,ox,ox,ox,ox,ox] (fr::bV q::g))=_;rw[A,lM];show _P.settle _ _ (fr::bV q3::(g++_++_++_))=_;rw[R7,R7];exact dY pf
end
noncomputable def Bq(a b:Int):List (Key × PV):=[(.inr "add",.int (a+b)),(.inr "sub",.int (a - b)),(.inr "mul",.int (a*b))]
theorem Ca a b:cE [] (Bq a b)=Bq a b:=by rfl
theorem vV a h:jE (.str a) (.tup [.str "less",.str "same"]) h= .ok (.bl (decide (a∈(["less", "same"]:List Str)))) h:=yU (ss:=["less", "same"])
theorem KZ(o:Bo) a b:(o= .less∨o= .same)∨(¬ o.w∈(["less", "same"]:List Str)∧ ∃ n ,c9 (Bq a b) (.inr o.w)=fI (.int n)∧n % 1000=o.f a b):=by
 cases o with
 | less=>exact .inl (.inl rfl)
 | same=>exact .inl (.inr rfl)
 | add=>exact .inr ⟨by decide +kernel,_,by rfl,rfl⟩
 | sub=>exact .inr ⟨by decide +kernel,_,by rfl,rfl⟩
 | mul=>exact .inr ⟨by decide +kernel,_,by rfl,rfl⟩
section
variable{pg:Tb}(T:bH pg)
include T
theorem pW(hf: ∀ x,0<=fP D x/\fP D x<=999): ∀ e k h,h[n]?=fI (.bu (gA D))->e.ok->e.dp<=k->run pg (k+1) "_law_worth" [lU e,.ref n] h= .ok (.int (e.val (fP D))) h
 | .num i,k,h,hn,_,_=>by
  rw[run_eq T.gb rfl];simp? [bf,bF,lU,Sm.val]
 | .of x,k,h,hn,_,_=>by
  have g:=yk D x;rw[run_eq T.gb rfl];simp? [bf,bF,lU,Sm.val,hn,g]
 | .un a,0,h,hn,_,hd=>by unfold Sm.dp at hd;omega
 | .un a,k+1,h,hn,ok,hd=>by
  have i1:=pW hf a k h hn ok (by unfold Sm.dp at hd;omega);have sm:lU (.un a)= .tup _:=rfl;rw[run_eq T.gb rfl,sm,Sm.val];by_cases z:a.val (fP D)=0
  . simp? [bf,bF,i1,z]
  . simp? [bf,bF,i1,z]
 | .bin o a b,0,h,hn,_,hd=>by unfold Sm.dp at hd;omega
 | .bin o a b,k+1,h,hn,ok,hd=>by
  have i1:=pW hf a k h hn ok.1 (by unfold Sm.dp at hd;omega);have i2:=pW hf b k h hn ok.2 (by unfold Sm.dp at hd;omega);have sm:lU (.bin o a b)= .tup _:=rfl;have n1: ¬ o.w= "num" /\ ¬ o.w= "of" /\ ¬ o.w= "not" :=by cases o<;>(simp only[Bo.w];decide +kernel)
  have va:=Sm.nY hf a ok.1;rw[run_eq T.gb rfl,sm,Sm.val];generalize a.val (fP D)=x at i1 va;generalize b.val (fP D)=y at i2;rcases KZ o x y with (rfl | rfl) | ⟨z,n,z1,z2⟩
  . have m1:(SO "less")∈(["less", "same"]:List Str):=by decide +kernel
    by_cases c:x < y
    . simp? [bf,bF,Bo.w,Bo.f,i1,i2,vV,m1,c]
    . simp? [bf,bF,Bo.w,Bo.f,i1,i2,vV,m1,c]
  . have m1:(SO "same")∈(["less", "same"]:List Str):=by decide +kernel
    by_cases c:x=y
    . simp? [bf,bF,Bo.w,Bo.f,i1,i2,vV,m1,c]
    . simp? [bf,bF,Bo.w,Bo.f,i1,i2,vV,m1,c]
  . have dk:Nv h.length [((.inr "add"),PV.int (x+y)),(.inr "sub",.int (x - y)),(.inr "mul",.int (x*y))] (h++[.bu []])= .ok (.ref h.length) (h++[.bu (Bq x y)]):=by
     have:=AK (h:=h) (kvs:=Bq x y) (by simp[Bq]);rw[Ca] at this;exact this
    rw[<- z2];simp? [bf,bF,n1.1,n1.2.1,n1.2.2,i1,i2,vV,z,nF,qe,ni,qv,rh,qM,dk,z1];exact bj rfl
omit T in
theorem Mm{ss:List Str}(e:h[n]?=fI (.lst (ss.map PV.str))) a:jE (.str a) (.ref n) h= .ok (.bl (decide (a∈ss))) h:=by
 have:isIn (.str a) (.ref n) h=fI (decide (a∈ss)):=by
  unfold isIn;simp only[itemsOf,br,e,all_strs,iN,VS,if_true,jJ]
 unfold jE;rw [this]
theorem Jj k h r {hl:List Str} (e:h[n]?=fI (.lst (hl.map PV.str))) (hm: ∀ y,y∈hl↔y∈held):run pg (k+1) "_law_is_own" [bO r,.ref n] h= .ok (.bl (own held r)) h:=by
 have r0:=λg=>rw_0 r g;have il: ∀ a:Str,jE _ (.tup [.str "let",.str "leap"]) h= .ok (.bl (decide (a∈(["let", "leap"]:List Str)))) h:=λa=>yU (ss:=["let", "leap"]);have ie:=Mm e;have eb: ∀ b c:Bool,eE (.bl b) (.bl c) h= .ok (.bl (b == c)) h:=λb c=>by cases b<;>cases c<;>rfl
 rw [run_eq T.sk rfl];cases r with
 | take l=>simp? [cH,eU,bO,Rw.w,Rw.ps,ie,eb,own,hm];simp
 | free l=>simp? [cH,eU,bO,Rw.w,Rw.ps,ie,eb,own,hm];simp
 | _=>simp? [cH,eU,r0,Rw.w,il,own,Sd,Sp,or_false,or_true]
end
theorem set_same{h:PH}(e:h[n]?=fI o):h.set n o=h:=by
 obtain⟨l,e⟩:=RY.mp e;rw[<- e];exact Zg l
theorem lZ{h:PH}(l:n < h.length):(h.set n o)[n]?=fI o:=by rw[SV l]
theorem bp{h:PH}(ne:n≠m):(h.set n o)[m]?=h[m]?:=Te ne
noncomputable def rT:=(iq (aF (ao AQ (aa 1) (eB bG (a1 (aa 0))))) (aF (ai "_law_is_own" (ae (ao aE (aa 0) (aa 1)) (a1 (aa 3))))))
noncomputable def rA:=(ag (bS (mQ (eX 5 0) (eS "let")) (gW fD (aa 2) (eX 5 1) (ai "_law_worth" (a2 (eX 5 2) (aa 2)))) cD) (bS (iq (mQ (eX 5 0) (eS "leap")) (aF (ao kR (ai "_law_worth" (a2 (eX 5 2) (aa 2))) (eI 0)))) (ak (eX 5 1) (gN 1)) cD))
noncomputable def rB:=(ag (bS (mQ (aa 4) (eI 200)) (aA (eB bG (a1 (aa 0)))) cD) (ag (ak (ao aE (aa 0) (aa 1)) (gN 5)) (ag (ak (ao aV (aa 4) (eI 1)) (gN 4)) (ag (ak (ao aV (aa 1) (eI 1)) (gN 1)) rA))))
theorem pN(hL:L.length<=20)(h:sR L D):(gA D).length < 16777216:=by unfold gA;rw[xn];have:=h.len;omega
section
variable{pg:Tb}(T:bH pg)
include T
theorem Pm k (hL:L.length<=20) (ed:h[d]?=fI (.bu (gA D))) (e:rs[t.row]?=fI r) (ho:own t.held r=true) (hr:fF L rs.length r) (hD:sR L D) (hf: ∀ x,fP D x=fP t.ps x) (nd:(t.ps.map (·.1)).Nodup) u3 u4 :
  ∃ D' ,sR L D'/\(∀ x,fP D' x=fP (behind t r).ps x)/\rA (run pg (k+9)) [fI (bZ rs),fI (.int ((t.row)+1)),fI (.ref d),u3,u4,fI (bO r)] h= .ok (.nx [fI (bZ rs),fI (.int (behind t r).row),fI (.ref d),u3,u4,fI (bO r)]) (h.set d (.bu (gA D'))):=by
 have ff:=funext hf;have w: ∀ e0:Sm,jY e0->run pg _ _ _ h= .ok (.int (e0.val (fP t.ps))) h:=λe0 he=>by
  rw[<- ff];exact pW T hD.CH e0 (k+8) _ ed he.1 (by have:=he.2;omega)
 have hl9:=pN hL hD;have up:(t.row)+1=((t.row+1:Nat):Int):=by omega
 cases r with
 | let_ x e0 =>
  have hv:=Sm.nY (f:=fP t.ps) (by rw[<- ff];exact hD.CH) e0 hr.2.1
  refine⟨putD D x _,pI hD hr.1 hv.1 hv.2,λy=>by rw[pR,behind,vH nd,hf],?_⟩
  simp? [rA,bO,Rw.w,Rw.ps,w e0 hr.2,ed,mP hl9,kr,behind,up]
 | leap j e0 =>
  refine⟨D,hD,λy=>?_,?_⟩
  . rw[hf];show _=fP (if e0.val _=0 then(⟨t.row+1,t.ps,t.held⟩:fL) else⟨j.toNat,t.ps,t.held⟩).ps y;split<;>rfl
  . rw[set_same ed];by_cases z:e0.val (fP t.ps)=0
    . simp? [rA,bO,Rw.w,Rw.ps,w e0 hr.2.2,behind,z,up]
    . have jj:((j.toNat))=j:=by have:=hr.1;omega
      simp? [rA,bO,Rw.w,Rw.ps,w e0 hr.2.2,behind,z,jj]
 | take l=>exact⟨D,hD,hf,by rw[set_same ed];simp? [rA,bO,Rw.w,Rw.ps,behind,up]⟩
 | free l=>exact⟨D,hD,hf,by rw[set_same ed];simp? [rA,bO,Rw.w,Rw.ps,behind,up]⟩
 | _=>cases ho
theorem Bt k (dl:d≠l) {hl:List Str} (hL:L.length<=20) (hr: ∀ r∈rs,fF L rs.length r): ∀(m i:Nat) t D h u5 f,i+m=200->m+2<=f->h[d]?=fI (.bu (gA D))->h[l]?=fI (.lst (hl.map PV.str))->(∀ y,y∈hl↔y∈t.held)->dE L rs t->sR L D->(∀ x,fP D x=fP t.ps x) ->
  ∃(D':Pk)(fl:Fl),sR L D'/\(∀ x,fP D' x=fP (bq rs m t).ps x)/\(fl= .rt (.int (bq rs m t).row)\/ ∃ u2 u3 u4 u5,fl= .nx [fI (bZ rs),fI (.int (bq rs m t).row),u2,u3,u4,u5]) /\
  cR (rT (run pg (k+9))) (rB (run pg (k+9))) f [fI (bZ rs),fI (.int t.row),fI (.ref d),fI (.ref l),fI (.int i),u5] h= .ok fl (h.set d (.bu (gA D'))):=by
 have ln: ∀ h,bG [bZ rs] h= .ok _ h:=λh=>by unfold bZ;rw[len_T,xn]
 have ix: ∀{t:fL}{r:Rw}(h:PH),rs[t.row]?=fI r->aE (bZ rs) _ h= .ok _ h:=λh e=>jX (iJ e);have stop: ∀(i:Nat)(t:fL)(h:PH)(u5:Option PV)(f:Nat),h[l]?=fI _->(∀ y,y∈hl↔y∈t.held)->bC rs t=true->cR (rT (run pg (k+9))) (rB (run pg (k+9))) (f+1) _ h= .ok (.nx [fI (bZ rs),fI (.int t.row),fI (.ref d),fI (.ref l),fI (.int i),u5]) h:=λi t h u5 f el hm r1=>by
  refine Gw ?_;cases e:rs[t.row]? with
  | none =>
   have z: ¬ (t.row) < (rs.length:Int):=by have:=VQ.mp e;omega
   simp? [rT,ln,z]
  | some r =>
   have lt:=(RY.mp e).1
   have z:(t.row) < (rs.length):=by omega
   have ow:=Jj T (k+8) h r el hm
   have on:own t.held r=false:=by unfold bC at r1;rw[e] at r1;simpa using r1
   rw[on] at ow
   simp? [rT,ln,z,ix h e,ow]
 have go: ∀(i:Nat)(t:fL)(h:PH)(u5:Option PV)(r:Rw),h[l]?=fI _->(∀ y,y∈hl↔y∈t.held)->rs[t.row]?=fI r->own t.held r=true->rT (run pg (k+9)) [fI (bZ rs),fI (.int t.row),fI (.ref d),fI (.ref l),fI (.int i),u5] h= .ok true h:=λi t h u5 r el hm e ho=>by
  have lt:=(RY.mp e).1;have z:(t.row) < (rs.length:Int):=by omega
  have ow:=Jj T (k+8) h r el hm;rw[ho] at ow;simp? [rT,ln,z,ix h e,ow]
 intro m
 induction m with
 | zero =>
  intro i t D h u5 f hi hf ed el hm hs hD hp
  obtain⟨f,rfl⟩: ∃ j,f=j+1:=⟨f - 1,by omega⟩
  cases r1:bC rs t with
  | true =>
   have fr:bq rs 0 t=t:=by unfold bq;rw[if_pos r1]
   exact⟨D,_,hD,by rw[fr];exact hp,.inr ⟨_,_,_,_,by rw[fr]⟩,by rw[set_same ed];exact stop i t h u5 f el hm r1⟩
  | false =>
   obtain⟨r,e,ho⟩:=qZ r1
   have fr:bq rs 0 t=⟨rs.length,t.ps,t.held⟩:=by unfold bq;rw[if_neg (by simp[r1])]
   have i200:(i:Int)=200:=by omega
   refine⟨D,.rt _,hD,by rw[fr];exact hp,.inl (by rw[fr]),?_⟩
   rw[set_same ed,cR,go i t h u5 r el hm e ho,d9,if_pos rfl]
   have st:rB (run pg (k+9)) [fI (bZ rs),fI (.int t.row),fI (.ref d),fI (.ref l),fI (.int i),u5] h= .ok (.rt (.int rs.length)) h:=by
    simp? [rB,i200,ln]
   rw[st,d9]
 | succ m ih =>
  intro i t D h u5 f hi hf ed el hm hs hD hp
  obtain⟨f,rfl⟩: ∃ j,f=j+1:=⟨f - 1,by omega⟩
  cases r1:bC rs t with
  | true =>
   have fr:bq rs (m+1) t=t:=by unfold bq;rw[if_pos r1]
   exact⟨D,_,hD,by rw[fr];exact hp,.inr ⟨_,_,_,_,by rw[fr]⟩,by rw[set_same ed];exact stop i t h u5 f el hm r1⟩
  | false =>
   obtain⟨r,e,ho⟩:=qZ r1
   have hrr:=hr r (Se e)
   have fr:bq rs (m+1) t=bq rs m (behind t r):=by
    rw[bq,if_neg (by simp[r1]),e]
   obtain⟨D1,a1,a2,a3⟩:=Pm T k hL ed e ho hrr hD hp hs.pk.nd (fI (.ref l)) (fI (.int ((i+1:Nat))))
   obtain⟨D',fl,b1,b2,b3,b4⟩:=ih (i+1) (behind t r) D1 (h.set d (.bu (gA D1))) (fI (bO r)) f (by omega) (by omega) (lZ (aC ed)) ((bp dl).trans el) (by rw[oW];exact hm) (ke hs hrr e) a1 a2
   refine⟨D',fl,b1,by rw[fr];exact b2,by rw[fr];exact b3,?_⟩
   have i200: ¬ (i:Int)=200:=by omega
   have up:(i)+1=((i+1:Nat):Int):=by omega
   rw[JH (go i t h u5 r el hm e ho) ?_]
   . rw[b4,List.set_set]
   . simp? [rB,i200,ix h e,up,a3]
theorem Ah k h (dl:d≠l) {hl:List Str} (hL:L.length<=20) (hr: ∀ r∈rs,fF L rs.length r) (ed:h[d]?=fI (.bu (gA D))) (el:h[l]?=fI (.lst (hl.map PV.str))) (hm: ∀ y,y∈hl↔y∈t.held) (hs:dE L rs t) (hD:sR L D) (hp: ∀ x,fP D x=fP t.ps x): ∃ D' ,sR L D'/\(∀ x,fP D' x=fP (bq rs 200 t).ps x) /\
  run pg (k+10) "_law_rest" [bZ rs,.int t.row,.ref d,.ref l] h= .ok (.int (bq rs 200 t).row) (h.set d (.bu (gA D'))):=by
 obtain⟨D',fl,a1,a2,a3,a4⟩:=Bt T k dl hL hr 200 0 t D h ox 100000 (by decide) (by decide) ed el hm hs hD hp;refine⟨D',a1,a2,?_⟩;rw[run_eq T.wB rfl];have a4':cR _ _ 100000 [fI _,fI _,fI _,fI _,fI (.int 0),ox] h= .ok fl _:=a4;unfold rT rB rA at a4';have se: ∀ v:PV,_P.settle h v _= .ok v (h.set d (.bu (gA D'))):=λv=>oR (o:= .bu (gA D));rcases a3 with rfl | ⟨u2,u3,u4,u5,rfl⟩
 . simp? [fu,jZ,Jt,a4',se]
 . simp? [fu,jZ,Jt,a4',se]
end
structure Pg where
 bs:List (Str × Int)
 s1:List Str
 s2:List Str
 s3:List Str
 hs:List (Str × List Rw)
noncomputable def Pg.v(P:Pg):PV:= .tup [.tup (P.bs.map eW),.tup (P.s1.map PV.str),.tup (P.s2.map PV.str),.tup (P.s3.map PV.str),.tup (P.hs.map bR)]
noncomputable def Pg.nm(P:Pg):=Qv (P.bs.map (·.1)) P.s1 P.s2 P.s3
structure Pg.Ok(P:Pg):Prop where
 bx:P.bs.length<=20/\ ∀ z∈P.bs,nz z.1=true/\0<=z.2/\z.2<=999
 nm:Cm P.s1/\Cm P.s2/\Cm P.s3
 many:1<=P.hs.length/\P.hs.length<=4
 hd: ∀ h∈P.hs,mC (P.bs.map (·.1)) P.s1 P.s2 P.s3 h
theorem PC.pg(h:PC bs s1 s2 s3 hs p):p=Pg.v ⟨bs,s1,s2,s3,hs⟩/\Pg.Ok ⟨bs,s1,s2,s3,hs⟩:=⟨h.at_,h.bx,h.nm,h.many,h.hd⟩
theorem Pg.hand(P:Pg){i:Nat}(e:P.hs[i]?=fI x):og P.v (i) x.2:=⟨_,_,_,_,_,_,rfl,_P.dS rfl (by rw[Sq,e];rfl)⟩
def Jy(x:Str × List Rw) L:=L.length<=6/\(∀ y∈L,yg y=true)/\ ∀ r∈x.2,fF L x.2.length r
noncomputable def JU x:=Classical.epsilon (Jy x)
theorem fM(h:mC s0 s1 s2 s3 x):Jy x (JU x):=by
 obtain⟨_,L,l1,l2,l3⟩:=h;exact Classical.epsilon_spec ⟨L,l1,l2,λr m=>(l3 r m).1⟩
structure Wd where
 aX:List Int
 ck:List fL
 jF:List (Int × PV)
 eV:List (Option Int × PV)
 de:List (Int × Int × List Int)
 l6:List Int
noncomputable def jA(b:Int × PV):PV:= .tup [.int b.1,b.2]
noncomputable def IL:Option Int->PV
 | none=> .non
 | some i=> .int i
noncomputable def gQ(l:Option Int × PV):PV:= .tup [IL l.1,l.2]
noncomputable def gL(n:Int × Int × List Int):PV:= .tup [.int n.1,.int n.2.1,.tup (n.2.2.map PV.int)]
noncomputable def az(S:Wd):PV:= .tup [.tup (S.aX.map PV.int),.tup (S.ck.map aO),.tup (S.jF.map jA),.tup (S.eV.map gQ),.tup (S.de.map gL),.tup (S.l6.map PV.int)]
def rI(N:Nat)(v:PV):=v= .non\/ ∃ a b ,v= .tup [.int a,.int b]/\0<=a/\a < 4/\0<=b/\b<=N
theorem rI.flat(h:rI N v):v.flat=true:=by
 rcases h with rfl | ⟨a,b,rfl,_⟩<;>rfl
structure NG(P:Pg)(N:Nat)(x:Str × List Rw)(s:fL):Prop where
 so:dE (JU x) x.2 s
 nd:s.held.Nodup
 le:s.held.length<=N
 re:bC x.2 s=true
 nm: ∀ l∈s.held,l∈P.s1
 sr:s.held.Pairwise kE
structure eK(P:Pg)(N:Nat)(S:Wd):Prop where
 lc:S.aX.length=P.hs.length
 ls:S.ck.length=P.hs.length
 l0:S.jF.length=P.bs.length
 l1:S.eV.length=P.s1.length
 l2:S.de.length=P.s2.length
 l3:S.l6.length=P.s3.length
 ct: ∀ c∈S.aX,0<=c/\c<=N
 bx: ∀ b∈S.jF,(0<=b.1/\b.1<=999)/\rI N b.2
 lk: ∀ l∈S.eV,(∀ i,l.1=fI i->0<=i/\i < 4)/\rI N l.2
 ln: ∀ n∈S.de,(0<=n.1/\n.1<=N)/\(0<=n.2.1/\n.2.1<=N)/\n.2.2.length<=N/\ ∀ v∈n.2.2,0<=v/\v<=999
 dr: ∀ d∈S.l6,0<=d/\d<=N
 se: ∀(j:Nat)(x:Str × List Rw)(s:fL),P.hs[j]?=fI x->S.ck[j]?=fI s->NG P N x s
noncomputable def j7(P:Pg)(S:Wd):Option Rw->PV
 | none=> .str "end"
 | some (.take l)=>match S.eV[(P.nm 1).idxOf l]? with
  | some (fI i,_)=> .tup [.str "lock",.str l,.int i]
  | _=> .non
 | some (.fetch _ l)=>match S.de[(P.nm 2).idxOf l]? with
  | some (_,_,[])=> .tup [.str "letter",.str l]
  | _=> .non
 | some _=> .non
noncomputable def rowAt(P:Pg)(S:Wd)(j:Nat):Option Rw:=match P.hs[j]?,S.ck[j]? with
 | some x,fI s=>x.2[s.row]?
 | _,_=>ox
noncomputable def c8 P S j:=j7 P S (rowAt P S j)
theorem dR(e1:P.hs[j]?=fI x)(e2:S.ck[j]?=fI s):rowAt P S j=x.2[s.row]?:=by unfold rowAt;rw[e1,e2]
theorem bM{P:Pg}(ok:P.Ok){j:Nat}(e:P.hs[j]?=fI x)(m:r∈x.2)(q:r.th=fI (k,t)):t∈P.nm k:=by
 obtain⟨_,L,_,_,l3⟩:=ok.hd x (Se e);exact(l3 r m).2 k t (Py q)
theorem E0{P:Pg}(ok:P.Ok){j:Nat}(e:P.hs[j]?=fI x)(m:r∈x.2)(q:r.nm=fI (k,t)):t∈P.nm k:=by
 obtain⟨_,L,_,_,l3⟩:=ok.hd x (Se e);exact(l3 r m).2 k t q
theorem aZ{α :Type}{l:List α}{ns:List Str}(hl:l.length=ns.length)(m:t∈ns): ∃ z,l[ns.idxOf t]?=fI z/\z∈l:=by
 have h:ns.idxOf t < l.length:=by rw[hl];exact VE m
 exact⟨l[ns.idxOf t],R6 h,Uw h⟩
theorem ba{α :Type}{f: α ->PV}{l:List α}{n:Nat}{z}(e:l[n]?=fI z):fK (l.map f) (n)=fI (f z):=_P.dS rfl (by simp_all)
theorem nh(W:eK P N S)(h:j < P.hs.length): ∃ x s c,P.hs[j]?=fI x/\S.ck[j]?=fI s/\S.aX[j]?=fI c/\NG P N x s:=by
 have h1:j < S.ck.length:=by rw[W.ls];exact h
 have h2:j < S.aX.length:=by rw[W.lc];exact h
 exact⟨P.hs[j],S.ck[j],S.aX[j],R6 h,R6 h1,R6 h2,W.se j _ _ (R6 h) (R6 h1)⟩
theorem jt: ∀ n s,bC rs (bq rs n s)=true
 | 0,s=>by
  unfold bq;split
  . assumption
  . unfold bC;rw[Tn (Si _)]
 | n+1,s=>by
  unfold bq;split
  . assumption
  . split
    . rename_i e;unfold bC;rw[e]
    . exact jt n _
theorem Ec{α :Type}{l:List α}{g f: α ->PV}{st:PV->PH->RV (Option PV)}{H:PH}(hl:l.length<=1000)(he: ∀ x∈l,st (g x) H= .ok (fI (f x)) H):dU ⟨ox,l.map g⟩ st (l.map g) [] H= .ok (l.map f) H :=
 (cM rfl l [] he (by simp;omega)).trans (by simp_all)
noncomputable def pj:Nat->Str
 | 0=> "box" | 1=> "lock" | 2=> "lane" | _=> "door"
noncomputable def Ju(S:Wd) 
 | 0=>S.jF.map jA | 1=>S.eV.map gQ | 2=>S.de.map gL | _=>S.l6.map PV.int
section
variable{pg:Tb}(T:bH pg)
include T
theorem xr k h (P:Pg) (ok:P.Ok) i:run pg (k+1) "names_of" [P.v,.str (pj i)] h= .ok (.ref h.length) (h++[.lst ((P.nm i).map PV.str)]):=by
 have b20:=ok.bx.1;rw [run_eq T.yC rfl];have ik: ∀(a:Str)(n:Nat),a∈(["box", "lock", "lane", "door", "hand"]:List Str)->(["box", "lock", "lane", "door", "hand"]:List Str).idxOf a=n->yi _ _ h= .ok _ h:=λa n m e=>by exact LC m
 match i with
 | 0 =>
  have q:yi (.ktup [(.str "box"),(.str "lock"),(.str "lane"),(.str "door"),(.str "hand")]) _ h= .ok (.int 0) h:=ik "box" 0 (by decide +kernel) (by rfl)
  have lc: ∀ E ,E=[fI P.v,fI (.str "box"),fI (.tup (P.bs.map eW))]->dU ⟨ox,P.bs.map eW⟩ (aM 1 (gN 3) aK (eX 3 0) (run pg k) E) (P.bs.map eW) [] h= .ok ((P.bs.map (·.1)).map PV.str) h:=by
   rintro _ rfl;rw[Tf];refine Ec (by omega) λx _=>?_;rfl
  have lc':=lc _ rfl
  unfold Pg.v at lc'
  simp? [ju,qI,Pg.v,pj,Ou,q,lc']
  exact aY rfl
 | 1 =>
  exact aY rfl
 | 2 =>
  exact aY rfl
 | (n+3) =>
  exact aY rfl
theorem oN k h {P:Pg} (ok:P.Ok) (m:t∈P.nm i):run pg (k+2) "number_of" [P.v,.str (pj i),.str t] h= .ok (.int ((P.nm i).idxOf t)) h:=by
 have n1:=xr T k h P ok i;have e:(h++[PO.lst _])[h.length]?=fI (.lst ((P.nm i).map PV.str)):=aT;have i1:=Mm e t;have i2:=uw e m;rw[run_eq T.pd rfl];simp? [fE,jM,n1,i1,m,i2];exact bj rfl
theorem rU k h {P:Pg} (ok:P.Ok) S (i4:i < 4) (m:t∈P.nm i) (e:(Ju S i)[(P.nm i).idxOf t]?=fI z):run pg (k+3) "state_of" [P.v,az S,.str (pj i),.str t] h= .ok z h:=by
 have n1:=oN T k h ok m;have a1:=_P.dS rfl e;have ix: ∀ g,aE _ _ g= .ok z g:=λg=>jX a1;have pl:c9 cF (.inr (pj i))=fI (.int ((2+i:Nat))):=by
  rcases Cv i4 with rfl | rfl | rfl | rfl
  . decide +kernel
  . decide +kernel
  . decide +kernel
  . decide +kernel
 have st: ∀ g,aE (az S) (.int ((2+i:Nat):Int)) g= .ok (.tup (Ju S i)) g:=λg=>by
  rcases Cv i4 with rfl | rfl | rfl | rfl
  . exact xO
  . exact Cd
  . exact uk
  . exact Nd
 rw[run_eq T.yQ rfl];simp? [iY,qk,pl,st,n1,ix]
end
theorem lay_ints: ∀ ls:List Int,Tg (ls.map Xt)=true
 | []=>rfl
 | i::r=>by rw[R9,Tg,lay_ints r];rfl
theorem lF: ∀ ls:List Int,bW f (ls.map PV.int)=fI (ls.map Xt)
 | []=>rfl
 | x::r=>by rw[R9,bW,lF r];rfl
theorem pQ:eE (.tup (ls.map PV.int)) (.tup []) h= .ok (.bl (decide (ls=[]))) h:=by
 have d1:dat 6 h (.tup (ls.map PV.int))=fI (.tuple (ls.map Xt)):=by unfold dat;rw[ic,lF];rfl
 have d2:dat 6 h (.tup [])=fI _:=rfl;have sc:jR (.tup (ls.map PV.int)) (.tup [])=false:=rfl;have c1:(YW (ls.map Xt)).canLay0=true:=by rw[Vj,lay_ints]
 have c3:min (YW (ls.map Xt)).depth (YW []).depth<=64:=Sx (YH _ _) (by decide);have al:alike (.tup (ls.map PV.int)) (.tup []) h=fI (decide (ls=[])):=by
  unfold alike;rw[sc,d1,d2];simp only[Xv,if_false,c1,c3];cases ls<;>rfl
 unfold eE;rw[al]
theorem aaL s r: ∃ t v,bY s r= .tup [.str r.w,t,v]:=by cases r<;>exact⟨_,_,rfl⟩
theorem wF(r:Rw):(∃ l,r= .take l)\/(∃ x l,r= .fetch x l)\/(¬ r.w= "take" /\ ¬ r.w= "fetch" /\ ∀ P S,j7 P S (fI r)= .non):=by
 cases r with
 | take l=>exact .inl ⟨l,rfl⟩
 | fetch x l=>exact .inr (.inl ⟨x,l,rfl⟩)
 | _=>exact .inr (.inr ⟨by simp only[Rw.w];decide +kernel,by simp only[Rw.w];decide +kernel,λ_ _=>rfl⟩)
section
variable{pg:Tb}(T:bH pg)
include T
theorem abd k h (ok:P.Ok) (W:eK P N S) (hj:j < P.hs.length):run pg (k+11) "wait_of" [P.v,az S,.int j] h= .ok (c8 P S j) h:=by
 obtain⟨x,s,c,ex,es,ec,so⟩:=nh W hj;obtain⟨l1,l2,l3⟩:=fM (ok.hd x (Se ex));have to:=o9 T k h (by omega) (P.hand ex) l3 so.so;have i1: ∀ g,aE (az S) _ g= .ok _ g:=λg=>ig;have i2: ∀ g,aE _ _ g= .ok (aO s) g:=λg=>jX (ba es);rw[run_eq T.Cp rfl];unfold c8;rw[dR ex es];unfold qQ at to;cases e:x.2[s.row]? with
 | none =>
  rw[e] at to
  simp? [cW,eP,i1,i2,to,j7]
 | some r =>
  rw[e] at to
  have mr:=Se e
  rcases wF r with⟨l,rfl⟩ | ⟨y,l,rfl⟩ | ⟨n1,n2,n3⟩
  . have m:=bM ok ex mr rfl;obtain⟨z,ez,mz⟩:=aZ (ns:=P.nm 1) W.l1 m;have so:=rU T (k+7) h ok S (by decide) m (by show(S.eV.map gQ)[_]?=_;rw[Sq,ez];rfl);have so':run pg _ _ [P.v,az S,.str "lock",.str l] h= .ok _ h:=so;obtain⟨zh,zm⟩:=z;simp only[j7,ez];cases zh with
    | none=>simp? [cW,eP,i1,i2,to,bY,so',gQ,IL]
    | some i=>simp? [cW,eP,i1,i2,to,bY,so',gQ,IL]
  . have m:=bM ok ex mr rfl;obtain⟨z,ez,mz⟩:=aZ (ns:=P.nm 2) W.l2 m;have so:=rU T (k+7) h ok S (by decide) m (by show(S.de.map gL)[_]?=_;rw[Sq,ez];rfl);have so':run pg _ _ [P.v,az S,.str "lane",.str l] h= .ok _ h:=so;obtain⟨a,b,ls⟩:=z;simp only[j7,ez];cases ls with
    | nil =>
     have q:=pQ (ls:=[]) (h:=h)
     rw[SF] at q
     simp? [cW,eP,i1,i2,to,bY,so',gL,q]
    | cons i r =>
     have q:=pQ (ls:=i::r) (h:=h)
     have ne:decide (i::r=[])=false:=rfl
     rw[ne,R9] at q
     simp? [cW,eP,i1,i2,to,bY,so',gL,q]
  . obtain⟨t,v,et⟩:=aaL s r;have to':run pg _ _ _ h= .ok (bY s r) h:=to;rw[et] at to';rw[n3];simp? [cW,eP,i1,i2,to',n1,n2]
end
noncomputable def gC P S:=(S6 P.hs.length).filter λj=>decide (c8 P S j= .non)
theorem oH{α β :Type} p (f: α -> β): ∀ l:List α,(l.filterMap λj=>if p j=true then fI (f j) else ox)=(l.filter p).map f
 | []=>rfl
 | x::r=>by
  by_cases z:p x=true
  . rw[U8 (by rw[if_pos z]),SJ z,R9,oH p f r]
  . rw[U7 (by rw[if_neg z]),SR z,oH p f r]
noncomputable def eO(j:Nat):PV:= .int (j)
theorem NR:gX false x h= .ok (.bl (decide (x= .non))) h:=rfl
section
variable{pg:Tb}(T:bH pg)
include T
theorem xZ k h (P:Pg) (ok:P.Ok):run pg (k+1) "hands_of" [P.v] h= .ok (.ref h.length) (h++[.lst (aJ 0 P.hs.length)]):=by
 have:=ok.many;rw[run_eq T.rW rfl];simp? [gJ,l7,Pg.v,Jh,Dc,xn];exact aY rfl
end
theorem Bj(e1:h[n]?=fI (.lst xs))(e2:h[m]?=fI (.lst []))(d: ∀ sub,bW sub xs=fI ds)(c:Tg ds=true):alike (.ref n) (.ref m) h=fI (decide (xs=[])):=by
 have d1:dat 6 h (.ref n)=fI (.list ds):=by unfold dat;simp only[ic,e1,d,UC]
 have d2:dat 6 h (.ref m)=fI (.list []):=by unfold dat;simp only[ic,e2,bW,UC]
 have c1:(Vk ds).canLay0=true/\(Vk []).canLay0=true/\min (Vk ds).depth (Vk []).depth<=64:=⟨by exact c,rfl,Sx (YH _ _) (by decide)⟩
 unfold alike;rw[show jR _ _=false from rfl,d1,d2];simp only[Xv,if_false];rw[if_pos c1];cases xs with
 | nil =>
  have:=d λ_=>ox
  cases this
  rfl
 | cons x r =>
  have q:=d λ_=>ox
  cases ds with
  | nil =>
   rw[bW] at q
   split at q
   . cases q
   . cases q
  | cons a b=>rfl
theorem Av(e1:h[n]?=fI (.lst xs))(e2:h[m]?=fI (.lst []))(d: ∀ sub,bW sub xs=fI ds)(c:Tg ds=true):kR (.ref n) (.ref m) h= .ok (.bl (!decide (xs=[]))) h:=by
 have nd:iL h (.ref n)=false:=by simp only[iL,e1]
 unfold kR;rw[Bj e1 e2 d c,nd];rfl
theorem DG(l:List Nat):l.map eO=(l.map λj:Nat=>(j:Int)).map PV.int:=by rw[Tf];rfl
theorem IY(l:List Nat): ∃ ds ,(∀ sub,bW sub (l.map eO)=fI ds)/\Tg ds=true:=by
 rw[DG];exact⟨_,λsub=>lF _,lay_ints _⟩
noncomputable def kJ(j:Nat)(c:Int):PV:= .tup [.int (j),.int c]
noncomputable def Rw.tg:Rw->Str
 | .hear _ d=>d
 | r=>match r.th with
  | some (_,t)=>t
  | none=> ""
noncomputable def met(P:Pg)(S:Wd)(j:Nat)(c:Int)(s:fL)(g:PV):Rw->Wd × PV × PV
 | .get _ b=>(S,.int ((S.jF[(P.nm 0).idxOf b]?).getD (0,.non)).1,((S.jF[(P.nm 0).idxOf b]?).getD (0,.non)).2)
 | .put b e=>({ S with jF:=S.jF.set ((P.nm 0).idxOf b) (e.val (fP s.ps),kJ j c)},.int (e.val (fP s.ps)),((S.jF[(P.nm 0).idxOf b]?).getD (0,.non)).2)
 | .take l=>({ S with eV:=S.eV.set ((P.nm 1).idxOf l) (fI (j),((S.eV[(P.nm 1).idxOf l]?).getD (ox,.non)).2)},.non,((S.eV[(P.nm 1).idxOf l]?).getD (ox,.non)).2)
 | .free l=>({ S with eV:=S.eV.set ((P.nm 1).idxOf l) (ox,kJ j c)},.non,.non)
 | .send l e=>({ S with de:=S.de.set ((P.nm 2).idxOf l) (((S.de[(P.nm 2).idxOf l]?).getD (0,0,[])).1+1,((S.de[(P.nm 2).idxOf l]?).getD (0,0,[])).2.1,((S.de[(P.nm 2).idxOf l]?).getD (0,0,[])).2.2++[e.val (fP s.ps)])},.int (e.val (fP s.ps)),.int ((S.de[(P.nm 2).idxOf l]?).getD (0,0,[])).1)
 | .fetch _ l=>({ S with de:=S.de.set ((P.nm 2).idxOf l) (((S.de[(P.nm 2).idxOf l]?).getD (0,0,[])).1,((S.de[(P.nm 2).idxOf l]?).getD (0,0,[])).2.1+1,((S.de[(P.nm 2).idxOf l]?).getD (0,0,[])).2.2.tail)},.int (((S.de[(P.nm 2).idxOf l]?).getD (0,0,[])).2.2.headD 0),.int ((S.de[(P.nm 2).idxOf l]?).getD (0,0,[])).2.1)
 | .say d e=>({ S with l6:=S.l6.set ((P.nm 3).idxOf d) ((S.l6[(P.nm 3).idxOf d]?).getD 0+1)},.int (e.val (fP s.ps)),.int ((S.l6[(P.nm 3).idxOf d]?).getD 0))
 | _=>(S,g,.non)
noncomputable def gq(S:Wd) j c t:={ S with aX:=S.aX.set j (c+1),ck:=S.ck.set j t}
noncomputable def c7(r:Rw)(v m:PV):PV:= .tup [.str r.w,.str r.tg,v,m]
noncomputable def cz P S j c rs s g r:=gq (met P S j c s g r).1 j c (bq rs 200 (after s (met P S j c s g r).2.1 r))
noncomputable def dA:Rw->Bool
 | .clock _=>true | .lot _ _=>true | .hear _ _=>true
 | _=>false
def fO r (g:PV):=(dA r=true-> ∃ i ,g= .int i∧0<=i∧i<=999∧ ∀ x n,r= .lot x n->i < n)∧(dA r=false->g= .non)
theorem bP{α :Type}(f: α ->PV)(l:List α) n z:(l.map f).set n (f z)=(l.set n z).map f:=List.map_set.symm
theorem rG(h:r.th=fI (i,t)):c9 gy (.inr r.w)=fI (.str (pj i))∧ ¬ r.w∈(["clock", "lot", "hear"]:List Str)∧i < 4∧dA r=false∧r.tg=t:=by
 cases r<;>cases h<;>exact ⟨by rfl,by simp only [Rw.w];decide +kernel,by decide,rfl,rfl⟩
theorem kj(h:dA r=true):r.w∈(["clock", "lot", "hear"]:List Str)∧r.th=ox∧ ∀ P S j c s g,met P S j c s g r=(S,g,.non):=by
 cases r<;>first | exact ⟨by simp only [Rw.w];decide +kernel,rfl,λ_ _ _ _ _ _=>rfl⟩ | cases h
theorem qF s (h:dA r=true): ∃ tv,bY s r= .tup [.str r.w,.str r.tg,tv]∧((∃ x n,r= .lot x n∧tv= .int n)∨ ¬ r.w= "lot"):=by
 cases r<;>first | exact ⟨_,rfl,.inl ⟨_,_,rfl,rfl⟩⟩ | exact ⟨_,rfl,.inr (by simp only [Rw.w];decide +kernel)⟩ | cases h
theorem xP s (h:r.th=fI (i,t)): ∃ tv,bY s r= .tup [.str r.w,.str t,tv]:=by
 cases r<;>cases h<;>exact⟨_,rfl⟩
theorem iH(h:bC rs s=true)(e:rs[s.row]?=fI r):own s.held r=false/\((∃ i t,r.th=fI (i,t))\/dA r=true):=by
 unfold bC at h;rw[e] at h;have ho:own s.held r=false:=by simpa using h
 refine⟨ho,?_⟩;cases r<;>first | exact .inr rfl | exact .inl ⟨_,_,rfl⟩ | cases ho
section
variable{pg:Tb}(T:bH pg)
include T
theorem dJ k h xs (n:Nat) v (hn:n < xs.length) (hx:xs.length<=1000):run pg (k+1) "replaced" [.tup xs,.int (n),v] h= .ok (.tup (xs.set n v)) h:=by
 have c1:fQ xs ox (fI (n))=xs.take n:=by rw[_P.qz (by omega)];rfl
 have c2:fQ xs (fI ((n)+1)) ox=xs.drop (n+1):=by rw[_P.mH (by omega)];congr 1
 have a1: ∀ g,aV _ _ g= .ok (.tup (xs.take n++[v])) g:=λg=>iT (by grind);have a2: ∀ g,aV _ _ g= .ok (.tup (xs.take n++[v]++xs.drop (n+1))) g:=λg=>iT (by grind);have es:xs.set n v=xs.take n++[v]++xs.drop (n+1):=by rw[List.set_eq_take_append_cons_drop,if_pos hn];simp
 rw[es,run_eq T.zp rfl];simp? [iW,ri,c1,c2,a1,↓a2]
theorem q8 k h (h0:a<=i) (h9:i<=b):run pg (k+2) "is_between" [.int i,.int a,.int b] h= .ok (.bl true) h:=by
 have w:run pg (k+1) "is_whole" [.int i] h= .ok (.bl true) h:=by
  rw[run_eq T.yT rfl];simp? [jc,rE,L9,Ml]
 rw [run_eq T.uh rfl];simp? [fW,mZ,w,h0,h9]
theorem Gs k h s (hg:fO r g) (hc:(∃ i t,r.th=fI (i,t))∨dA r=true):run pg (k+5) "takes_gift" [bY s r,g] h= .ok (.bl true) h:=by
 have ink: ∀ a:Str,jE _ (.ktup [(.str _),(.str "lot"),(.str "hear")]) h= .ok (.bl (decide (a∈(["clock", "lot", "hear"]:List Str)))) h:=λa=>in_K (ss:=["clock", "lot", "hear"]);rw [run_eq T.uV rfl];rcases hc with ⟨i,t,ht⟩ | hq
 . obtain ⟨_,n2,_,n4,_⟩:=rG ht;obtain⟨tv,et⟩:=xP s ht;have eg:=hg.2 n4;subst eg;rw[et];simp? [dQ,je,ink,n2]
 . obtain⟨m1,_⟩:=kj hq;obtain⟨i,rfl,i0,i9,il⟩:=hg.1 hq;obtain⟨tv,et,cl⟩:=qF s hq;have iv:run pg (k+3) "is_value" [.int i] h= .ok (.bl true) h:=by
    have:=q8 T k h i0 i9;rw[run_eq T.zJ rfl];simp? [iS,qr,this]
   have mc:run pg (k+4) "may_come" [bY s r,.int i] h= .ok (.bl true) h:=by
    rw[run_eq T.zW rfl];rcases cl with⟨x,n,rfl,rfl⟩ | cl
    . have lt:=il x n rfl;rw[et];simp? [gz,mE,iv,Rw.w,lt]
    . rw[et];simp? [gz,mE,iv,cl]
   rw[et] at mc ⊢;simp? [dQ,je,ink,m1,mc]
theorem Er k h (ok:P.Ok) (W:eK P N S) (ex:P.hs[j]?=fI x) (es:S.ck[j]?=fI s) (er:x.2[s.row]?=fI r) (hw:c8 P S j= .non) (hg:fO r g):run pg (k+12) "due_touch" [P.v,az S,.int j,g] h= .ok (bY s r) h:=by
 have hj:=(RY.mp ex).1;have so:=W.se j x s ex es;obtain⟨l1,l2,l3⟩:=fM (ok.hd x (Se ex));have to:=o9 T (k+1) h (by omega) (P.hand ex) l3 so.so;unfold qQ at to;rw[er] at to;have to':=to;have i1: ∀ g,aE (az S) _ g= .ok _ g:=λg=>ig;have i2: ∀ g,aE _ _ g= .ok (aO s) g:=λg=>jX (ba es);have i4: ∀ g,aE P.v _ g= .ok _ g:=λg=>uk;have w:=abd T k h ok W hj;rw[hw] at w;have bt:=q8 T (k+9) h (i:=(j)) (a:=0) (b:=(P.hs.length) - 1) (by omega) (by omega);have tg:=Gs T (k+6) h s hg (iH so.re er).2;have en:eE .non (.str "end") h= .ok (.bl false) h:=rfl;rw[run_eq T.xN rfl];simp? [hZ,oS,i4,xn,bt,w,en,i1,i2,to',tg]
theorem qA k h (ok:P.Ok) (W:eK P N S) (N9:N<=60) {j:Nat} (ex:P.hs[j]?=fI x) (es:S.ck[j]?=fI s) (ec:S.aX[j]?=fI c) (er:x.2[s.row]?=fI r) (h1:S1.aX=S.aX) (h2:S1.ck=S.ck) (hv: ∀ x,r.gn=fI x-> ∃ i ,v= .int i/\0<=i/\i<=999):run pg (k+12) "with_hand_on" [P.v,az S1,.int j,v] h= .ok (az (gq S1 j c (bq x.2 200 (after s v r)))) h:=by
 have so:=W.se j x s ex es;have hm:=ok.many;obtain⟨l1,l2,l3⟩:=fM (ok.hd x (Se ex))
 let t:=bq x.2 200 (after s v r)
 have sb:run pg _ _ _ h= .ok (aO t) h:=rl T k h (by omega) (P.hand ex) l3 so.so (Sx so.le N9) er hv;have lj:=(RY.mp ex).1;have i0: ∀ g,aE (az S1) _ g= .ok (.tup (S.aX.map PV.int)) g:=λg=>by rw[<- h1];exact kI
 have i1: ∀ g,aE (az S1) _ g= .ok (.tup (S.ck.map aO)) g:=λg=>by rw[<- h2];exact ig
 have i2: ∀ g,aE _ _ g= .ok (aO s) g:=λg=>jX (ba es);have i3: ∀ g,aE _ _ g= .ok (.int c) g:=λg=>jX (ba ec);have lc:=W.lc;have ls:=W.ls;have r1:=dJ T (k+10) h (S.aX.map PV.int) j (.int (c+1)) (by simp_all) (by rw[xn];omega);rw[bP PV.int] at r1;have r2:=dJ T (k+10) h (S.ck.map aO) j (aO t) (by simp_all) (by rw[xn];omega);rw[bP aO] at r2
 let B:List PV:=[.tup (S1.jF.map jA),.tup (S1.eV.map gQ),.tup (S1.de.map gL),.tup (S1.l6.map PV.int)]
 have e1:az S1= .tup (.tup (S.aX.map PV.int):: .tup (S.ck.map aO)::B):=by rw[<- h1,<- h2];rfl
 have r3:=dJ T (k+10) h (.tup (S.aX.map PV.int):: .tup (S.ck.map aO)::B) 0 (.tup ((S.aX.set j (c+1)).map PV.int)) (by simp[B]) (by simp[B]);rw[<- e1] at r3;have r3':run pg _ _ [az S1,.int 0,.tup _] h= .ok _ h:=r3;have r4:=dJ T (k+10) h (.tup ((S.aX.set j (c+1)).map PV.int):: .tup (S.ck.map aO)::B) 1 (.tup ((S.ck.set j t).map aO)) (by simp[B]) (by simp[B]);have r4':run pg (k+11) "replaced" [.tup (.tup ((S.aX.set j (c+1)).map PV.int):: .tup (S.ck.map aO)::B),.int 1,.tup ((S.ck.set j t).map aO)] h= .ok (az (gq S1 j c t)) h:=by
  refine(show _=RV.ok (PV.tup (.tup _:: .tup _::B)) h from r4).trans ?_;unfold gq az;rw[h1,h2]
 show _=RV.ok (az (gq S1 j c t)) h;rw[run_eq T.rJ rfl];simp? [dX,jH,i0,i1,i2,i3,sb,r1,r2,r3',r4']
end
noncomputable def Kt(S:Wd)(i n:Nat)(z:PV):PV:= .tup ([.tup (S.aX.map PV.int),.tup (S.ck.map aO),.tup (S.jF.map jA),.tup (S.eV.map gQ),.tup (S.de.map gL),.tup (S.l6.map PV.int)].set (2+i) (.tup ((Ju S i).set n z)))
theorem Na{α :Type}{l:List α}{z}(e:l[n]?=fI z):l.set n z=l:=by
 obtain⟨h,rfl⟩:=RY.mp e;exact Zg h
theorem Fg(W:eK P N S)(i4:i < 4):(Ju S i).length=(P.nm i).length:=by
 rcases Cv i4 with rfl | rfl | rfl | rfl
 . show(S.jF.map jA).length=(P.bs.map (·.1)).length;rw[xn,xn];exact W.l0
 . show(S.eV.map gQ).length=P.s1.length;rw[xn];exact W.l1
 . show(S.de.map gL).length=P.s2.length;rw[xn];exact W.l2
 . show(S.l6.map PV.int).length=P.s3.length;rw[xn];exact W.l3
theorem L1{P:Pg}(ok:P.Ok)(i4:i < 4):(P.nm i).length<=20:=by
 rcases Cv i4 with rfl | rfl | rfl | rfl
 . show(P.bs.map (·.1)).length<=20;rw[xn];exact ok.bx.1
 . exact ok.nm.1.1
 . exact ok.nm.2.1.1
 . exact ok.nm.2.2.1
section
variable{pg:Tb}(T:bH pg)
include T
theorem sg k h (ok:P.Ok) (W:eK P N S) (i4:i < 4) (m:t∈P.nm i) z:run pg (k+3) "with_state" [P.v,az S,.str (pj i),.str t,z] h= .ok (Kt S i ((P.nm i).idxOf t) z) h:=by
 have n1:=oN T k h ok m;have hn:(P.nm i).idxOf t < (Ju S i).length:=by rw[Fg W i4];exact VE m
 have hx:=L1 ok i4;rw[<- Fg W i4] at hx;have pl:c9 cF (.inr (pj i))=fI (.int ((2+i:Nat))):=by
  rcases Cv i4 with rfl | rfl | rfl | rfl
  . decide +kernel
  . decide +kernel
  . decide +kernel
  . decide +kernel
 have st: ∀ g,aE (az S) (.int ((2+i:Nat):Int)) g= .ok (.tup (Ju S i)) g:=λg=>by
  rcases Cv i4 with rfl | rfl | rfl | rfl
  . exact xO
  . exact Cd
  . exact uk
  . exact Nd
 have r1:=dJ T (k+1) h _ _ z hn (by omega);have r2:=dJ T (k+1) h [.tup (S.aX.map PV.int),.tup (S.ck.map aO),.tup (S.jF.map jA),.tup (S.eV.map gQ),.tup (S.de.map gL),.tup (S.l6.map PV.int)] (2+i) (.tup ((Ju S i).set ((P.nm i).idxOf t) z)) (by simp only[Sb,S4];omega) (by simp_all);have r2':run pg _ _ [az S,.int _,.tup _] h= .ok (Kt S i _ z) h:=r2;rw [run_eq T.ue rfl];simp? [fZ,m7,pl,st,n1,r1,r2']
theorem gw k h (ok : P.Ok) (W : eK P N S) (N9 : N <= 60) (ex : P.hs[j]? = some x) (es : S.ck[j]? = some s) (ec : S.aX[j]? = some c) (er : x.2[s.row]? = some r) (hw : c8 P S j = .non)
      (ht : r.th = some (i, t)) (ez : (Ju S i)[(P.nm i).idxOf t]? = some z) (me : run pg (k + 12) "meeting" [bY s r, kJ j c, z] h = .ok (.tup [v, m, z']) h) (h0 : Kt S i ((P.nm i).idxOf t) z' = az S1) (h1 : S1.aX = S.aX) (h2 : S1.ck = S.ck) (hv : ∀ x, r.gn = some x -> ∃ i , v = .int i /\ 0 <= i /\ i <= 999) :
    run pg (k + 13) "gone" [P.v, az S, .int j, .non] h = .ok (.tup [az (gq S1 j c (bq x.2 200 (after s v r))), c7 r v m]) h := by
  obtain ⟨q1, q2, q3, q4, q5⟩ := rG ht;have tm := bM ok ex (Se er) ht;obtain ⟨tv, et⟩ := xP s ht;have du := Er T k h ok W ex es er hw ⟨λe => (by simp_all), λ_ => rfl⟩;have so := rU T (k + 9) h ok S q3 tm ez;have ws := sg T (k + 9) h ok W q3 tm z';rw [h0] at ws;have ho := qA T k h ok W N9 ex es ec er h1 h2 hv;have i0 : ∀ g, aE (az S) _ g = .ok _ g := λg => kI;have i3 : ∀ g, aE _ _ g = .ok (.int c) g := λg => jX (ba ec);have ink : ∀ a : Str, jE _ (.ktup [(.str _), (.str "lot"), (.str "hear")]) h = .ok (.bl (decide (a ∈ (["clock", "lot", "hear"] : List Str)))) h := λa => in_K (ss := ["clock", "lot", "hear"]);unfold kJ at me;unfold c7;rw [et] at du me;rw [q5, run_eq T.CI rfl];simp? (disch := omega) only [qc, y8, du, ink, q2, q1, i0, i3, so, me, ws, ho]
theorem B2 k h (ok:P.Ok) (W:eK P N S) (N9:N<=60) (ex:P.hs[j]?=fI x) (es:S.ck[j]?=fI s) (ec:S.aX[j]?=fI c) (er:x.2[s.row]?=fI r) (hw:c8 P S j= .non) (hq:dA r=true) (hg:fO r g) :
  run pg (k+13) "gone" [P.v,az S,.int j,g] h= .ok (.tup [az (gq S j c (bq x.2 200 (after s g r))),c7 r g .non]) h:=by
 obtain ⟨q1,q2,q3⟩:=kj hq;obtain⟨tv,et,_⟩:=qF s hq;have du:=Er T k h ok W ex es er hw hg;obtain ⟨i,rfl,i0,i9,_⟩:=hg.1 hq;have ho:=qA T k h ok W N9 ex es ec er rfl rfl (λ_ _=>⟨i,rfl,i0,i9⟩);have ink: ∀ a:Str,jE _ (.ktup [(.str _),(.str "lot"),(.str "hear")]) h= .ok (.bl (decide (a∈(["clock", "lot", "hear"]:List Str)))) h:=λa=>in_K (ss:=["clock", "lot", "hear"]);unfold c7;rw [et] at du;rw [run_eq T.CI rfl];simp? [qc,y8,du,ink,q1,ho]
theorem aa6 k h (ok:P.Ok) (W:eK P N S) (N9:N<=60) (ex:P.hs[j]?=fI x) (es:S.ck[j]?=fI s) (ec:S.aX[j]?=fI c) (er:x.2[s.row]?=fI r) (hw:c8 P S j= .non) (hg:fO r g) :
  run pg (k+13) "gone" [P.v,az S,.int j,g] h= .ok (.tup [az (cz P S j c x.2 s g r),c7 r (met P S j c s g r).2.1 (met P S j c s g r).2.2]) h:=by
 have so:=W.se j x s ex es;have mr:=Se er;rcases(iH so.re er).2 with⟨i,t,ht⟩ | hq
 . obtain⟨q1,q2,q3,q4,q5⟩:=rG ht;have eg:=hg.2 q4;subst eg;have tm:=bM ok ex mr ht;cases r with
   | get y b =>
    obtain⟨z,ez,mz⟩:=aZ (by rw[W.l0];exact(xn ..).symm) (bM ok ex mr rfl)
    have hz:=W.bx z mz
    have:=gw T k h ok W N9 ex es ec er hw rfl (m:=z.2) (z':=jA z) (by show(S.jF.map jA)[_]?=_;rw[Sq,ez];rfl) (by
     rw[run_eq T.eN rfl];simp? [cG,dG,bY,jA,kJ]) (by
     show PV.tup [_,_,.tup ((S.jF.map jA).set _ _),_,_,_]=_;rw[bP jA,Na ez];rfl) rfl rfl (λ_ _=>⟨z.1,rfl,hz.1.1,hz.1.2⟩)
    simp only[cz,met,ez,SE]
    exact this
   | put b e =>
    obtain⟨z,ez,mz⟩:=aZ (by rw[W.l0];exact(xn ..).symm) (bM ok ex mr rfl)
    have:=gw T k h ok W N9 ex es ec er hw rfl (v:= .int (e.val (fP s.ps))) (m:=z.2) (z':=jA (e.val (fP s.ps),kJ j c)) (S1:={ S with jF:=S.jF.set _ _}) (by show(S.jF.map jA)[_]?=_;rw[Sq,ez];rfl) (by
     rw[run_eq T.eN rfl];simp? [cG,dG,bY,jA,kJ]) (by
     show PV.tup [_,_,.tup ((S.jF.map jA).set _ (jA _)),_,_,_]=_;rw[bP jA];rfl) rfl rfl (λ_ q=>by cases q)
    simp only[cz,met,ez,SE]
    exact this
   | take l =>
    obtain⟨z,ez,mz⟩:=aZ (ns:=P.nm 1) W.l1 (bM ok ex mr (k:=1) (t:=l) rfl)
    have:=gw T k h ok W N9 ex es ec er hw (r:= .take l) (i:=1) (t:=l) rfl (z:=gQ z) (v:= .non) (m:=z.2) (z':=gQ (fI (j),z.2)) (S1:={ S with eV:=S.eV.set ((P.nm 1).idxOf l) (fI (j),z.2)}) (by show(S.eV.map gQ)[_]?=_;rw[Sq,ez];rfl) (by
     rw[run_eq T.eN rfl];simp? [cG,dG,bY,gQ,IL,kJ]) (by
     show PV.tup [_,_,_,.tup ((S.eV.map gQ).set _ (gQ _)),_,_]=_;rw[bP gQ];rfl) rfl rfl (λ_ q=>by cases q)
    simp only[cz,met,ez,SE]
    exact this
   | free l =>
    obtain⟨z,ez,mz⟩:=aZ (l:=S.eV) (ns:=P.nm 1) W.l1 (bM ok ex mr (k:=1) (t:=l) rfl)
    have:=gw T k h ok W N9 ex es ec er hw (r:= .free l) (i:=1) (t:=l) rfl (z:=gQ z) (v:= .non) (m:= .non) (z':=gQ (ox,kJ j c)) (S1:={ S with eV:=S.eV.set ((P.nm 1).idxOf l) (ox,kJ j c)}) (by show(S.eV.map gQ)[_]?=_;rw[Sq,ez];rfl) (by
     rw[run_eq T.eN rfl];simp? [cG,dG,bY,gQ,IL,kJ]) (by
     show PV.tup [_,_,_,.tup ((S.eV.map gQ).set _ (gQ _)),_,_]=_;rw[bP gQ];rfl) rfl rfl (λ_ q=>by cases q)
    simp only[cz,met]
    exact this
   | send l e =>
    obtain⟨z,ez,mz⟩:=aZ (l:=S.de) (ns:=P.nm 2) W.l2 (bM ok ex mr (k:=2) (t:=l) rfl)
    have hz:=(W.ln z mz).2.2.1
    have ad: ∀ g,aV (.tup (z.2.2.map PV.int)) (.tup [.int (e.val (fP s.ps))]) g= .ok (.tup ((z.2.2++[e.val (fP s.ps)]).map PV.int)) g:=λg=>by
     rw[iT (by simp only[xn,Sb,S4];omega),SH];rfl
    have:=gw T k h ok W N9 ex es ec er hw (r:= .send l e) (i:=2) (t:=l) rfl (z:=gL z) (v:= .int (e.val (fP s.ps))) (m:= .int z.1) (z':=gL (z.1+1,z.2.1,z.2.2++[e.val (fP s.ps)])) (S1:={ S with de:=S.de.set ((P.nm 2).idxOf l) (z.1+1,z.2.1,z.2.2++[e.val (fP s.ps)])}) (by show(S.de.map gL)[_]?=_;rw[Sq,ez];rfl) (by
     rw[run_eq T.eN rfl];simp? [cG,dG,bY,gL,kJ,↓ad]) (by
     show PV.tup [_,_,_,_,.tup ((S.de.map gL).set _ (gL _)),_]=_;rw[bP gL];rfl) rfl rfl (λ_ q=>by cases q)
    simp only[cz,met,ez,SE]
    exact this
   | fetch y l =>
    obtain⟨z,ez,mz⟩:=aZ (l:=S.de) (ns:=P.nm 2) W.l2 (bM ok ex mr (k:=2) (t:=l) rfl)
    have hz:=(W.ln z mz).2.2.2
    obtain⟨za,zb,zl⟩:=z
    obtain⟨i,ls,rfl⟩: ∃ i ls,zl=i::ls:=by
     cases zl with
     | cons i ls=>exact⟨i,ls,rfl⟩
     | nil =>
      unfold c8 at hw
      rw[dR ex es,er] at hw
      simp only[j7,ez] at hw
      nomatch hw
    have hi:=hz i So
    have:=gw T k h ok W N9 ex es ec er hw (r:= .fetch y l) (i:=2) (t:=l) rfl (z:=gL (za,zb,i::ls)) (v:= .int i) (m:= .int zb) (z':=gL (za,zb+1,ls)) (S1:={ S with de:=S.de.set ((P.nm 2).idxOf l) (za,zb+1,ls)}) (by show(S.de.map gL)[_]?=_;rw[Sq,ez];rfl) (by
     rw[run_eq T.eN rfl];simp? [cG,dG,bY,gL,kJ,qJ]) (by
     show PV.tup [_,_,_,_,.tup ((S.de.map gL).set _ (gL _)),_]=_;rw[bP gL];rfl) rfl rfl (λ_ _=>⟨i,rfl,hi.1,hi.2⟩)
    simp only[cz,met,ez,SE,G5,W5]
    exact this
   | say d e =>
    obtain⟨z,ez,mz⟩:=aZ (l:=S.l6) (ns:=P.nm 3) W.l3 (bM ok ex mr (k:=3) (t:=d) rfl)
    have:=gw T k h ok W N9 ex es ec er hw (r:= .say d e) (i:=3) (t:=d) rfl (z:= .int z) (v:= .int (e.val (fP s.ps))) (m:= .int z) (z':= .int (z+1)) (S1:={ S with l6:=S.l6.set ((P.nm 3).idxOf d) (z+1)}) (by show(S.l6.map PV.int)[_]?=_;rw[Sq,ez];rfl) (by
     rw[run_eq T.eN rfl];simp? [cG,dG,bY,kJ]) (by
     show PV.tup [_,_,_,_,_,.tup ((S.l6.map PV.int).set _ (.int _))]=_;rw[bP PV.int];rfl) rfl rfl (λ_ q=>by cases q)
    simp only[cz,met,ez,SE]
    exact this
   | _=>cases ht
 . obtain⟨_,_,q3⟩:=kj hq;rw[cz,q3];exact B2 T k h ok W N9 ex es ec er hw hq hg
end
noncomputable def tr(n:Nat):List (Key × PV):=[(.inr "counts",.ref (n+1)),(.inr "seats",.ref (n+2)),(.inr "doors",.ref (n+3)),(.inr "boxes",.ref (n+4)),(.inr "locks",.ref (n+5)),(.inr "lanes",.ref (n+6))]
theorem d7 n:c9 (tr n) (.inr "counts")=fI (.ref (n+1))/\c9 (tr n) (.inr "seats")=fI (.ref (n+2))/\c9 (tr n) (.inr "doors")=fI (.ref (n+3))/\c9 (tr n) (.inr "boxes")=fI (.ref (n+4))/\c9 (tr n) (.inr "locks")=fI (.ref (n+5))/\c9 (tr n) (.inr "lanes")=fI (.ref (n+6)):=by
 refine⟨?_,?_,?_,?_,?_,?_⟩<;>simp[tr,c9,aD]
noncomputable def FA(n j:Nat)(s:fL):PV:= .tup [.int s.row,.ref (n+7+3*j),.ref (n+9+3*j)]
noncomputable def sL n (ss:List fL):=ss.mapIdx (FA n)
theorem CS(e:ss[j]?=fI s):(sL n ss)[j]?=fI (FA n j s):=by unfold sL;rw[List.getElem?_mapIdx,e];rfl
theorem zQ n ss:(sL n ss).length=ss.length:=by unfold sL;simp
theorem JY n j ss t:(sL n ss).set j (FA n j t)=sL n (ss.set j t):=by
 refine XJ λi=>?_;unfold sL;by_cases e:j=i
 . by_cases l:j < ss.length<;>simp[l]
 . simp[e]
noncomputable def cell(n:Nat)(S:Wd):Nat->PO
 | 0=> .bu (tr n) | 1=> .lst (S.aX.map PV.int) | 2=> .lst (sL n S.ck) | 3=> .lst (S.l6.map PV.int)
 | 4=> .lst (S.jF.map jA) | 5=> .lst (S.eV.map gQ) | _=> .lst (S.de.map gL)
def aax(H:PH)(d l:Nat) L (s:fL):= ∃(D:Pk)(hl:List Str),H[d]?=fI (.bu (gA D))/\H[l]?=fI (.lst (hl.map PV.str))/\sR L D/\(∀ x,fP D x=fP s.ps x)/\hl.Nodup/\ ∀ y,y∈hl↔y∈s.held
structure Rep(H:PH)(n:Nat)(P:Pg)(S:Wd)(ss:List fL):Prop where
 c: ∀ i,i < 7->H[n+i]?=fI (cell n S i)
 p: ∀(j:Nat)(x:Str × List Rw)(s:fL),P.hs[j]?=fI x->ss[j]?=fI s->aax H (n+7+3*j) (n+9+3*j) (JU x) s
 g: ∀ j,j < P.hs.length->H[n+8+3*j]?=fI (.lst [])
structure Fr(n m:Nat)(H H':PH):Prop where
 len:H'.length=H.length
 off: ∀ i,i < n\/n+7+3*m<=i->H'[i]?=H[i]?
theorem Fr.refl:Fr n m H H:=⟨rfl,λ_ _=>rfl⟩
theorem Fr.set(f:Fr n m H H')(h1:n<=i)(h2:i < n+7+3*m):Fr n m H (H'.set i o) :=
 ⟨by rw[Td];exact f.len,λk hk=>by rw[bp (by omega)];exact f.off k hk⟩
theorem Rep.same(R:Rep H n P S ss)(e: ∀ i,n<=i->i < n+7+3*P.hs.length->H'[i]?=H[i]?):Rep H' n P S ss:=by
 refine⟨λi hi=>by rw[e _ (by omega) (by omega)];exact R.c i hi,λj x s ex es=>?_,λj hj=>by rw[e _ (by omega) (by omega)];exact R.g j hj⟩;obtain⟨D,hl,h1,h2,h3⟩:=R.p j x s ex es;have lj:=(RY.mp ex).1;exact⟨D,hl,by rw[e _ (by omega) (by omega)];exact h1,by rw[e _ (by omega) (by omega)];exact h2,h3⟩
theorem Rep.app(R:Rep H n P S ss) G:Rep (H++G) n P S ss:=by
 refine⟨λi hi=>(aq (aC (R.c i hi))).trans (R.c i hi),λj x s ex es=>?_,λj hj=>(aq (aC (R.g j hj))).trans (R.g j hj)⟩;obtain⟨D,hl,h1,h2,h3⟩:=R.p j x s ex es;exact⟨D,hl,(aq (aC h1)).trans h1,(aq (aC h2)).trans h2,h3⟩
theorem Rep.set(R:Rep H n P S ss)(hi:i < 7)(e: ∀ k,k < 7->k≠i->cell n S' k=cell n S k):Rep (H.set (n+i) (cell n S' i)) n P S' ss:=by
 refine⟨λk hk=>?_,λj x s ex es=>?_,λj hj=>by rw[bp (by omega)];exact R.g j hj⟩
 . by_cases z:k=i
   . subst z;exact lZ (aC (R.c k hk))
   . rw[bp (by omega),e k hk z];exact R.c k hk
 . obtain⟨D,hl,h1,h2,h3⟩:=R.p j x s ex es;exact⟨D,hl,by rw[bp (by omega)];exact h1,by rw[bp (by omega)];exact h2,h3⟩
theorem Rep.put(R:Rep H n P S ss)(ex:P.hs[j]?=fI x)(es:ss[j]?=fI s)(hD:sR (JU x) D)(hf: ∀ y,fP D y=fP s'.ps y)(hh:s'.held=s.held):Rep (H.set (n+7+3*j) (.bu (gA D))) n P S (ss.set j s'):=by
 refine⟨λk hk=>by rw[bp (by omega)];exact R.c k hk,λi y t ey et=>?_,λi hi=>by rw[bp (by omega)];exact R.g i hi⟩;have lj:=(RY.mp es).1;by_cases z:j=i
 . subst z;rw[SV lj] at et;rw[ex] at ey;cases et;cases ey;obtain⟨D0,hl,h1,h2,h3,h4,h5,h6⟩:=R.p j x s ex es;exact⟨D,hl,lZ (aC h1),by simp_all,hD,hf,h5,by rw[hh];exact h6⟩
 . rw[Te z] at et;obtain⟨D0,hl,h1,h2,h3⟩:=R.p i y t ey et;exact⟨D0,hl,by rw[bp (by omega)];exact h1,by rw[bp (by omega)];exact h2,h3⟩
theorem Rep.hold(R:Rep H n P S ss)(ex:P.hs[j]?=fI x)(es:ss[j]?=fI s){hl:List Str}(nd:hl.Nodup)(hm: ∀ y,y∈hl↔y∈s'.held)(hp:s'.ps=s.ps):Rep (H.set (n+9+3*j) (.lst (hl.map PV.str))) n P S (ss.set j s'):=by
 refine⟨λk hk=>by rw[bp (by omega)];exact R.c k hk,λi y t ey et=>?_,λi hi=>by rw[bp (by omega)];exact R.g i hi⟩;have lj:=(RY.mp es).1;by_cases z:j=i
 . subst z;rw[SV lj] at et;rw[ex] at ey;cases et;cases ey;obtain⟨D0,hl0,h1,h2,h3,h4,h5,h6⟩:=R.p j x s ex es;exact⟨D0,hl,by simp_all,lZ (aC h2),h3,by rw[hp];exact h4,nd,hm⟩
 . rw[Te z] at et;obtain⟨D0,hl0,h1,h2,h3⟩:=R.p i y t ey et;exact⟨D0,hl0,by rw[bp (by omega)];exact h1,by rw[bp (by omega)];exact h2,h3⟩
noncomputable def GG:Option Rw->PV
 | none=> .non
 | some r=>bO r
structure Cells(H:PH)(n:Nat)(S:Wd):Prop where
 e0:H[n]?=fI (.bu (tr n))
 e1:H[n+1]?=fI (.lst (S.aX.map PV.int))
 e2:H[n+2]?=fI (.lst (sL n S.ck))
 e3:H[n+3]?=fI (.lst (S.l6.map PV.int))
 e4:H[n+4]?=fI (.lst (S.jF.map jA))
 e5:H[n+5]?=fI (.lst (S.eV.map gQ))
 e6:H[n+6]?=fI (.lst (S.de.map gL))
theorem Rep.cells(R:Rep H n P S ss):Cells H n S :=
 ⟨R.c 0 (by decide),R.c 1 (by decide),R.c 2 (by decide),R.c 3 (by decide),R.c 4 (by decide),R.c 5 (by decide),R.c 6 (by decide)⟩
section
variable{pg:Tb}(T:bH pg)
include T
theorem lC k (W:eK P N S) (C:Cells H n S) (hj:j < P.hs.length):run pg (k+1) "_law_row" [P.v,.ref n,.int j] H= .ok (GG (rowAt P S j)) H:=by
 obtain⟨x,s,c,ex,es,ec,so⟩:=nh W hj;obtain⟨v1,v2,v3,v4,v5,v6⟩:=d7 n;have i4: ∀ g,aE P.v _ g= .ok _ g:=λg=>uk;have ih: ∀ g,aE _ _ g= .ok (bR x) g:=λg=>jX (ba ex);have i1: ∀ g,aE (bR x) _ g= .ok _ g:=λg=>ig;have se:fK _ _=fI (FA n j s):=_P.dS rfl (CS es);have s0: ∀ g,aE (FA n j s) _ g= .ok _ g:=λg=>kI;have ln: ∀ h,bG [bZ x.2] h= .ok _ h:=λh=>by unfold bZ;rw[len_T,xn]
 rw[run_eq T.zE rfl,dR ex es];cases e:x.2[s.row]? with
 | none =>
  have z: ¬ (s.row) < (x.2.length:Int):=by simp_all
  simp? [gk,l8,i4,ih,i1,C.e0,v2,C.e2,se,s0,ln,z,GG]
 | some r =>
  have z:(s.row) < (x.2.length:Int):=by have:=(RY.mp e).1;omega
  have ix: ∀ h,aE (bZ x.2) _ h= .ok _ h:=λh=>jX (iJ e)
  simp? [gk,l8,i4,ih,i1,C.e0,v2,C.e2,se,s0,ln,z,ix,GG]
theorem wV k (ok:P.Ok) (W:eK P N S) (C:Cells H n S) (hj:j < P.hs.length):run pg (k+2) "_law_wait" [P.v,.ref n,.int j] H= .ok (c8 P S j) H:=by
 have ro:=lC T k W C hj;obtain⟨x,s,c,ex,es,ec,so⟩:=nh W hj;obtain⟨v1,v2,v3,v4,v5,v6⟩:=d7 n;have j1: ∀ g,aE P.v _ g= .ok _ g:=λg=>ig;have j2: ∀ g,aE P.v _ g= .ok _ g:=λg=>xO;unfold c8;rw[dR ex es] at ro ⊢;rw[run_eq T.w7 rfl];cases e:x.2[s.row]? with
 | none =>
  rw[e] at ro
  simp? [cj,cV,ro,GG,j7]
 | some r =>
  rw[e] at ro
  have mr:=Se e
  rcases wF r with⟨l,rfl⟩ | ⟨y,l,rfl⟩ | ⟨n1,n2,n3⟩
  . have m:l∈P.s1:=bM ok ex mr rfl;obtain⟨z,ez,mz⟩:=aZ W.l1 m;have ez':S.eV[(P.nm 1).idxOf l]?=fI z:=ez;have at_:=ba (f:=gQ) ez;obtain⟨zh,zm⟩:=z;simp only[j7,ez'];cases zh with
    | none=>simp? [cj,cV,ro,GG,bO,Rw.w,Rw.ps,C.e0,v5,C.e5,j1,nq,iX,jn m,at_,gQ,IL]
    | some i=>simp? [cj,cV,ro,GG,bO,Rw.w,Rw.ps,C.e0,v5,C.e5,j1,nq,iX,jn m,at_,gQ,IL]
  . have m:l∈P.s2:=bM ok ex mr rfl;obtain⟨z,ez,mz⟩:=aZ W.l2 m;have ez':S.de[(P.nm 2).idxOf l]?=fI z:=ez;have at_:=ba (f:=gL) ez;obtain⟨a,b,ls⟩:=z;simp only[j7,ez'];cases ls with
    | nil =>
     have q:=pQ (ls:=[]) (h:=H)
     rw[SF] at q
     simp? [cj,cV,ro,GG,bO,Rw.w,Rw.ps,C.e0,v6,C.e6,j2,nq,iX,jn m,at_,gL,q]
    | cons i r =>
     have q:=pQ (ls:=i::r) (h:=H)
     have ne:decide (i::r=[])=false:=rfl
     rw[ne,R9] at q
     simp? [cj,cV,ro,GG,bO,Rw.w,Rw.ps,C.e0,v6,C.e6,j2,nq,iX,jn m,at_,gL,q]
  . have r0:=λg=>rw_0 r g;have rn: ∀ g,gX false (bO r) g= .ok _ g:=λg=>Jz;rw[n3];simp? [cj,cV,ro,GG,rn,r0,n1,n2]
theorem qC k (ok:P.Ok) (W:eK P N S) (C:Cells H n S):run pg (k+3) "_law_can" [P.v,.ref n] H= .ok (.ref H.length) (H++[.lst ((gC P S).map eO)]):=by
 have hm:=ok.many;have i4: ∀ g,aE P.v _ g= .ok _ g:=λg=>uk;have tn:Xf _=P.hs.length:=SQ _;have lc:dU ⟨ox,aJ 0 P.hs.length⟩ (aM 1 (gN 2) (aF (Az (gX false) (ai "_law_wait" (a3 (aa 0) (aa 1) (aa 2))))) (aa 2) (run pg (k+2)) [fI P.v,fI (.ref n)]) (aJ 0 P.hs.length) [] H= .ok ((gC P S).map eO) H:=by
  refine(cM rfl _ [] (λi m=>?_) (by simp;omega)).trans (by rw[oH];rfl);have iz:(0:Int)+(i:Int)=(i:Int):=Vr _;have w:=wV T k ok W C (UO.mp m);by_cases z:c8 P S i= .non
  . simp? [iz,w,z,eO]
  . simp? [iz,w,z,NR]
 rw[run_eq T.ym rfl];simp? [jr,qd,i4,xn,tn,lc];exact aY rfl
end
mutual
theorem El(n:Nat): ∀ v:PV,v.flat=true->v.hU n=true
 | .tup xs,h=>by rw[PV.flat] at h;rw[PV.hU];exact gj n xs h
 | .ktup xs,h=>by rw[PV.flat] at h;rw[PV.hU];exact gj n xs h
 | .non,_=>rfl
 | .bl _,_=>rfl
 | .int _,_=>rfl
 | .str _,_=>rfl
 | .ty _,_=>rfl
 | .ref _,h=>nomatch h
theorem gj(n:Nat): ∀ xs:List PV,PV.bh xs=true->PV.gp n xs=true
 | [],_=>rfl
 | x::r,h=>by
  rw[PV.bh,Sr] at h;rw[PV.gp,El n x h.1,gj n r h.2];rfl
end
theorem iP{α :Type}{f}: ∀{l:List α},(∀ x∈l,(f x).flat=true)->PV.bh (l.map f)=true
 | [],_=>rfl
 | x::r,h=>by rw[R9,PV.bh,h x So,iP λz m=>h z (Sk _ m)];rfl
theorem DZ n D:(PO.bu (gA D)).hU n=true:=by
 show PV.gp n _=true;unfold gA;rw[Tf];exact gj n _ (iP λ_ _=>rfl)
theorem gI(e:h'.length=h.length):_P.settle h v h'= .ok v h':=by
 unfold _P.settle;split
 . rw [<- e,Yt]
 . rfl
theorem Af{ g:PH}(l:n < h.length):(h++g).set n o=h.set n o++g:=Zl _ _ l
theorem DL(h:dA r=false): ¬ r.w∈(["clock", "lot", "hear"]:List Str):=by
 cases r<;>first | (simp only [Rw.w];decide +kernel) | cases h
theorem aat(hr:fF L n r)(h:dA r=true):(∃ x m,r= .lot x m∧2<=m∧m<=1000)∨(¬ r.w= "lot" /\ ∀ x m,¬ r= .lot x m):=by
 cases r with
 | lot x m=>exact .inl ⟨x,m,rfl,hr.2⟩
 | clock x=>exact .inr ⟨by simp only[Rw.w];decide +kernel,λ_ _ e=>by cases e⟩
 | hear x d=>exact .inr ⟨by simp only[Rw.w];decide +kernel,λ_ _ e=>by cases e⟩
 | _=>cases h
theorem HJ(m0:2<=m)(a0:0<=a)(a1:a < m)(b0:0<=b)(b1:b < 2)(w0:0<=w)(w1:w < 4): ∃ v ,0<=v/\v < m/\fK [PV.int 0,.int (m - 1),.int a,.int b] w=fI (.int v):=by
 rcases(show w=0\/w=1\/w=2\/w=3 by omega) with rfl | rfl | rfl | rfl
 . exact⟨0,by omega,by omega,sQ⟩
 . exact⟨m - 1,by omega,by omega,yV⟩
 . exact⟨a,a0,a1,y6⟩
 . exact⟨b,b0,by omega,Dl⟩
section
variable{pg:Tb}(T:bH pg)
include T
theorem xS j fr q (hr:fF L n r): ∃ (g:PV) (q':Int × Int × Int),fO r g∧ ∀ G,run pg (j+2) "_law_gift" [.ref 1,bO r] (fr::bV q::G)= .ok g (fr::bV q'::G):=by
 have r0:=λg=>rw_0 r g;have nin: ∀(a:Str) h,lu _ (.tup [.str _,.str "lot",.str "hear"]) h= .ok (.bl (!decide (a∈(["clock", "lot", "hear"]:List Str)))) h:=λa h=>Ac (ss:=["clock", "lot", "hear"]);cases hq:dA r with
 | false =>
  have ng:=DL hq
  refine⟨.non,q,⟨λe=>(by simp_all),λ_=>rfl⟩,λG=>?_⟩
  rw[run_eq T.jL rfl]
  simp? [dI,hO,r0,nin,ng]
 | true =>
  obtain⟨m1,_⟩:=kj hq
  have fin_: ∀ m:Int,2<=m->m<=1000-> ∃(v:Int)(q':Int × Int × Int),0<=v/\v < m/\ ∀(G:PH)(e1:Option PV),∃ X:PH,(aA (ao aE (bA (ae (eI 0) (ae (ao sP (aa 2) (eI 1)) (ae (ai "_law_take" (a2 (aa 0) (aa 2))) (ae (ai "_law_take" (a2 (aa 0) (eI 2))) aj))))) (ai "_law_take" (a2 (aa 0) (eI 4))))) (run pg (j+1)) [fI (.ref 1),e1,fI (.int m)] (fr::bV q::G)= .ok (.rt (.int v)) (fr::bV q'::(G++X)):=λm m0 m9=>by
   obtain⟨a,q1,a0,a1,ea⟩:=cC T j fr q m (by omega) (by omega);obtain⟨b,q2,b0,b1,eb⟩:=cC T j fr q1 2 (by decide) (by decide);obtain⟨w,q3,w0,w1,ew⟩:=cC T j fr q2 4 (by decide) (by decide);obtain⟨v,v0,v1,ev⟩:=HJ m0 a0 a1 b0 b1 w0 w1;refine⟨v,q3,v0,v1,λG e1=>⟨[.lst [.int 0,.int (m - 1),.int a,.int b]],?_⟩⟩;simp? [ea,eb,ew,ev]
  rcases aat hr hq with⟨x,m,rfl,m0,m9⟩ | ⟨nl,nl2⟩
  . obtain⟨v,q',v0,v1,fv⟩:=fin_ m m0 m9;refine⟨.int v,q',⟨λ_=>⟨v,rfl,v0,by omega,λx n e=>by simp_all⟩,λe=>(by cases e)⟩,λG=>?_⟩;obtain⟨X,fx⟩:=fv G (fI (bO (.lot x m)));rw[run_eq T.jL rfl];simp only[bO,Rw.w,Rw.ps] at fx m1;simp? [dI,hO,bO,Rw.w,Rw.ps,nin,m1,↓fx];exact dY rfl
  . obtain⟨v,q',v0,v1,fv⟩:=fin_ 1000 (by decide) (by decide);refine⟨.int v,q',⟨λ_=>⟨v,rfl,v0,by omega,λx n e=>absurd e (nl2 x n)⟩,λe=>(by simp_all)⟩,λG=>?_⟩;obtain⟨X,fx⟩:=fv G (fI (bO r));rw[run_eq T.jL rfl];simp? [dI,hO,r0,nin,m1,nl,↓fx];exact dY rfl
end
theorem uR(W:eK P N S)(m:b∈S.jF):(jA b).flat=true:=by
 simp[jA,PV.flat,PV.bh,((W.bx b m).2).flat]
theorem wy{c:CF}{E:ay}{P:Pg}(ok:P.Ok){H:PH}{e1 e2 e3 e4 e5 e6 e7:Option PV}:dU ⟨ox,P.bs.map eW⟩ (aM 1 (gN 8) aK (eX 8 0) c [fI P.v,e1,e2,e3,e4,e5,e6,e7]) (P.bs.map eW) [] H= .ok ((P.nm 0).map PV.str) H:=by
 show _=RV.ok ((P.bs.map (·.1)).map PV.str) H
 have b20:=ok.bx.1;rw[Tf];refine Ec (by omega) λx _=>?_;rfl
section
variable{pg:Tb}(T:bH pg)
include T
theorem Bz k (ok:P.Ok) (W:eK P N S) (C:Cells H n S) (hL:L.length<=20) (ed:H[d]?=fI (.bu (gA D))) (hD:sR L D) (m:b∈P.nm 0) (ez:S.jF[(P.nm 0).idxOf b]?=fI z) ev:run pg (k+1) "_law_boxed" [P.v,.ref n,bO (.get y b),ev,.ref d] H= .ok (.tup [.str "get",.str b,.int z.1,z.2]) (H.set d (.bu (gA (putD D y z.1)))):=by
 obtain⟨v1,v2,v3,v4,v5,v6⟩:=d7 n;have i0: ∀ g,aE P.v _ g= .ok _ g:=λg=>kI;have old: ∀{i:Nat}{o:PO}(X:PH),H[i]?=fI o->(H++X)[i]?=fI o:=λX e=>(aq (aC e)).trans e;have c4:=old [.lst ((P.nm 0).map PV.str)] C.e4;have cd:=old [.lst ((P.nm 0).map PV.str)] ed;have ix:=uw (h:=H++[.lst _]) aT m;have at_:=ba (f:=jA) ez;have zf:=uR W (Se ez);have ld:=aC ed;rw[run_eq T.nM rfl];simp? (disch:=first | assumption | omega) only[d8,iU,bO,Rw.ps,i0,wy (E:=[]) ok,C.e0,v4,c4,cd,ix,at_,jA,mP (pN hL hD),kr,Af];refine l9 ?_ ed rfl (DZ _ _);exact zf
theorem aak k (ok:P.Ok) (W:eK P N S) (C:Cells H n S) (ed:H[d]?=fI (.bu (gA D))) (hD:sR L D) (he:jY e) (m:b∈P.nm 0) (ez:S.jF[(P.nm 0).idxOf b]?=fI z) (evf:ev.flat=true):run pg (k+9) "_law_boxed" [P.v,.ref n,bO (.put b e),ev,.ref d] H= .ok (.tup [.str "put",.str b,.int (e.val (fP D)),z.2]) (H.set (n+4) (.lst ((S.jF.set ((P.nm 0).idxOf b) (e.val (fP D),ev)).map jA))):=by
 obtain⟨v1,v2,v3,v4,v5,v6⟩:=d7 n;have i0: ∀ g,aE P.v _ g= .ok _ g:=λg=>kI;have old: ∀{i:Nat}{o:PO}(X:PH),H[i]?=fI o->(H++X)[i]?=fI o:=λX e=>(aq (aC e)).trans e;have c0:=old [.lst ((P.nm 0).map PV.str)] C.e0;have c4:=old [.lst ((P.nm 0).map PV.str)] C.e4;have cd:=old [.lst ((P.nm 0).map PV.str)] ed;have ix:=uw (h:=H++[.lst _]) aT m;have at_:=ba (f:=jA) ez;have zf:=uR W (Se ez);have ld:=aC C.e4;have lk:=(RY.mp ez).1;have w:=pW T hD.CH e (k+7) _ cd he.1 (by have:=he.2;omega)
 let B:=S.jF.set ((P.nm 0).idxOf b) (e.val (fP D),ev)
 have at2:fK (B.map jA) _=fI _:=ba (SV lk);have bB:(S.jF.map jA).set _ (.tup _)=B.map jA:=bP jA S.jF _ _;have pl:=λh v=>mY (h:=h) (n:=n+4) (xs:=S.jF.map jA) (v:=v) (i:=((P.nm 0).idxOf b)) rfl (by simp_all);rw[run_eq T.nM rfl];have o0: ∀ o:PO,(H.set (n+4) o++[.lst ((P.nm 0).map PV.str)])[n]?=fI _:=λo=>by rw[aq (by rw[Td];exact aC C.e0),bp (by omega)];exact C.e0
 have o4: ∀ o:PO,(H.set _ o++[.lst ((P.nm 0).map PV.str)])[n+4]?=fI o:=λo=>by rw[aq (by simp_all)];exact lZ ld
 have uf:(PO.lst (B.map jA)).hU H.length=true:=gj _ _ (iP λq mq=>by
  rcases Tz mq with mq | rfl
  . exact uR W mq
  . simp[jA,PV.flat,PV.bh,evf])
 show _=RV.ok _ (H.set _ (.lst (B.map jA)));simp only[jA] at at2 at_ zf;simp? (disch:=first | assumption | omega) only[d8,iU,bO,Rw.w,Rw.ps,i0,wy (E:=[]) ok,c0,v4,c4,ix,at_,w,pl,bB,Af,o0,o4,at2];refine l9 ?_ C.e4 rfl uf;exact zf
theorem w6 k {P:Pg} (C:Cells H n S) (eh:H[d]?=fI (.lst (hl.map PV.str))) (hd:n+6 < d) (hh:hl.length<=1000) (m:l∈P.s1) (ez:S.eV[P.s1.idxOf l]?=fI z) j c:run pg (k+1) "_law_locked" [P.v,.ref n,bO (.take l),kJ j c,.ref d] H= .ok (.tup [.str "take",.str l,.non,z.2]) ((H.set (n+5) (.lst ((S.eV.set (P.s1.idxOf l) (fI (j),z.2)).map gQ))).set d (.lst ((hl++[l]).map PV.str))):=by
 obtain⟨v1,v2,v3,v4,v5,v6⟩:=d7 n;have j1: ∀ g,aE P.v _ g= .ok _ g:=λg=>ig;have at_:=ba (f:=gQ) ez;have lk:=(RY.mp ez).1
 let B:=S.eV.set (P.s1.idxOf l) (fI (j),z.2)
 have bB:(S.eV.map gQ).set _ (.tup [.int _,z.2])=B.map gQ:=bP gQ S.eV _ (fI (j),z.2);have pl:=λh v=>mY (h:=h) (n:=n+5) (xs:=S.eV.map gQ) (v:=v) (i:=(P.s1.idxOf l)) rfl (by simp_all);have od: ∀ o:PO,(H.set (n+5) o)[d]?=fI _:=λo=>by rw[bp (by omega)];exact eh
 have hz:(hl.map PV.str).length < 16777216:=by rw[xn];omega
 rw[SH,run_eq T.kT rfl];simp only[gQ] at at_;simp? (disch:=first | assumption | omega) only[dj,iw,bO,Rw.w,Rw.ps,kJ,j1,nq,iX,jn m,C.e0,v5,C.e5,at_,pl,bB,od];exact gI (by simp_all)
theorem aam k {P:Pg} (C:Cells H n S) (eh:H[d]?=fI (.lst (hl.map PV.str))) (hd:n+6 < d) (hm:l∈hl) (m:l∈P.s1) (ez:S.eV[P.s1.idxOf l]?=fI z) j c:run pg (k+1) "_law_locked" [P.v,.ref n,bO (.free l),kJ j c,.ref d] H= .ok (.tup [.str "free",.str l,.non,.non]) ((H.set (n+5) (.lst ((S.eV.set (P.s1.idxOf l) (ox,kJ j c)).map gQ))).set d (.lst ((zX hl l).map PV.str))):=by
 obtain⟨v1,v2,v3,v4,v5,v6⟩:=d7 n;have j1: ∀ g,aE P.v _ g= .ok _ g:=λg=>ig;have at_:=ba (f:=gQ) ez;have lk:=(RY.mp ez).1
 let B:=S.eV.set (P.s1.idxOf l) (ox,kJ j c)
 have bB:(S.eV.map gQ).set _ (.tup [.non,.tup _])=B.map gQ:=bP gQ S.eV _ (ox,kJ j c);have pl:=λh v=>mY (h:=h) (n:=n+5) (xs:=S.eV.map gQ) (v:=v) (i:=(P.s1.idxOf l)) rfl (by simp_all);have od: ∀ o:PO,(H.set (n+5) o)[d]?=fI _:=λo=>by rw[bp (by omega)];exact eh
 have rm:=λo=>Qf (od o) hm;rw[run_eq T.kT rfl];simp only[gQ] at at_;simp? (disch:=first | assumption | omega) only[dj,iw,bO,Rw.w,Rw.ps,kJ,j1,nq,iX,jn m,C.e0,v5,C.e5,at_,pl,bB,od,rm];exact gI (by simp_all)
theorem yX k {P:Pg} (C:Cells H n S) (ed:H[d]?=fI (.bu (gA D))) (hD:sR L D) (he:jY e) (m:l∈P.s2) (ez:S.de[P.s2.idxOf l]?=fI z) (hz:z.2.2.length<=1000):run pg (k+9) "_law_laned" [P.v,.ref n,bO (.send l e),.ref d] H= .ok (.tup [.str "send",.str l,.int (e.val (fP D)),.int z.1]) (H.set (n+6) (.lst ((S.de.set (P.s2.idxOf l) (z.1+1,z.2.1,z.2.2++[e.val (fP D)])).map gL))):=by
 obtain⟨v1,v2,v3,v4,v5,v6⟩:=d7 n;have j2: ∀ g,aE P.v _ g= .ok _ g:=λg=>xO;have at_:=ba (f:=gL) ez;have lk:=(RY.mp ez).1;have w:=pW T hD.CH e (k+7) _ ed he.1 (by have:=he.2;omega)
 let B:=S.de.set (P.s2.idxOf l) (z.1+1,z.2.1,z.2.2++[e.val (fP D)])
 have bB:(S.de.map gL).set _ (.tup _)=B.map gL:=bP gL S.de _ _;have pl:=λh v=>mY (h:=h) (n:=n+6) (xs:=S.de.map gL) (v:=v) (i:=(P.s2.idxOf l)) rfl (by simp_all);have ad: ∀ g,aV (.tup (z.2.2.map PV.int)) (.tup [.int _]) g= .ok (.tup ((z.2.2++[e.val (fP D)]).map PV.int)) g:=λg=>by
  rw[iT (by simp only[xn,Sb,S4];omega),SH];rfl
 rw[run_eq T.nK rfl];simp only[gL] at at_;simp? (disch:=first | assumption | omega) only[dO,jw,bO,Rw.ps,j2,nq,iX,jn m,C.e0,v6,C.e6,at_,w,↓ad,pl,bB];exact gI (by simp_all)
theorem xx k {P:Pg} (C:Cells H n S) (ed:H[d]?=fI (.bu (gA D))) (hd:n+6 < d) (hL:L.length<=20) (hD:sR L D) (m:l∈P.s2) (ez:S.de[P.s2.idxOf l]?=fI (a,b,i::ls)):run pg (k+1) "_law_laned" [P.v,.ref n,bO (.fetch y l),.ref d] H= .ok (.tup [.str "fetch",.str l,.int i,.int b]) ((H.set (n+6) (.lst ((S.de.set (P.s2.idxOf l) (a,b+1,ls)).map gL))).set d (.bu (gA (putD D y i)))):=by
 obtain⟨v1,v2,v3,v4,v5,v6⟩:=d7 n;have j2: ∀ g,aE P.v _ g= .ok _ g:=λg=>xO;have at_:=ba (f:=gL) ez;have lk:=(RY.mp ez).1
 let B:=S.de.set (P.s2.idxOf l) (a,b+1,ls)
 have bB:(S.de.map gL).set _ (.tup _)=B.map gL:=bP gL S.de _ _;have pl:=λh v=>mY (h:=h) (n:=n+6) (xs:=S.de.map gL) (v:=v) (i:=(P.s2.idxOf l)) rfl (by simp_all);have od: ∀ o:PO,(H.set (n+6) o)[d]?=fI _:=λo=>by rw[bp (by omega)];exact ed
 rw[run_eq T.nK rfl];simp only[gL] at at_;simp? (disch:=first | assumption | omega) only[dO,jw,bO,Rw.ps,j2,nq,iX,jn m,C.e0,v6,C.e6,at_,qJ,pl,bB,od,mP (pN hL hD),kr];exact gI (by simp_all)
end
theorem BD s v r:(after s v r).row=s.row+1:=by cases r<;>rfl
theorem wM(hs:dE L rs s)(e:rs[s.row]?=fI r)(hr:fF L rs.length r)(hv: ∀ x,r.gn=fI x-> ∃ i ,v= .int i/\0<=i/\i<=999):dE L rs (after s v r):=by
 have hlt:=(RY.mp e).1;rcases rw_cls r with⟨x,hx⟩ | ⟨l,rfl⟩ | ⟨l,rfl⟩ | ⟨_,af⟩
 . obtain⟨i,rfl,h0,h9⟩:=hv x hx;rw[jN hx];exact⟨yw hs.pk (hr.pk hx) h0 h9,hlt⟩
 . exact⟨hs.pk,hlt⟩
 . exact⟨hs.pk,hlt⟩
 . rw[af];exact⟨hs.pk,hlt⟩
theorem qh(ex:P.hs[j]?=fI x)(es:S.ck[j]?=fI s)(er:x.2[s.row]?=fI (.fetch y l))(hw:c8 P S j= .non)(ez:S.de[(P.nm 2).idxOf l]?=fI z): ∃ a b i ls,z=(a,b,i::ls):=by
 obtain⟨za,zb,zl⟩:=z;cases zl with
 | cons i ls=>exact⟨za,zb,i,ls,rfl⟩
 | nil =>
  unfold c8 at hw
  rw[dR ex es,er] at hw
  simp only[j7,ez] at hw
  nomatch hw
theorem uv(W:eK P N S):S.jF.length=(P.nm 0).length:=by rw[W.l0];exact(xn ..).symm
theorem zD(ok:P.Ok)(W:eK P N S)(ex:P.hs[j]?=fI x)(es:S.ck[j]?=fI s)(er:x.2[s.row]?=fI r)(hw:c8 P S j= .non)(hg:fO r g): ∀ y,r.gn=fI y-> ∃ i ,(met P S j c s g r).2.1= .int i/\0<=i/\i<=999:=by
 have mr:=Se er;have gi:dA r=true-> ∃ i:Int,(met P S j c s g r).2.1= .int i/\0<=i/\i<=999:=λhq=>by
  obtain⟨i,rfl,h0,h9,_⟩:=hg.1 hq;rw[(kj hq).2.2];exact⟨i,rfl,h0,h9⟩
 intro y hy;cases r with
 | get y' b =>
  obtain⟨z,ez,mz⟩:=aZ (uv W) (bM ok ex mr rfl)
  exact⟨z.1,by simp only[met,ez,SE],(W.bx z mz).1⟩
 | fetch y' l =>
  obtain⟨z,ez,mz⟩:=aZ (ns:=P.nm 2) W.l2 (bM ok ex mr rfl)
  obtain⟨a,b,i,ls,rfl⟩:=qh ex es er hw ez
  exact⟨i,by simp only[met,ez,SE,W5],(W.ln _ mz).2.2.2 i So⟩
 | clock _=>exact gi rfl
 | lot _ _=>exact gi rfl
 | hear _ _=>exact gi rfl
 | _=>cases hy
theorem Rep.JZ(R:Rep H n P S ss)(es:ss[j]?=fI s)(hp:s'.ps=s.ps)(hh:s'.held=s.held):Rep H n P S (ss.set j s'):=by
 refine⟨R.c,λi y t ey et=>?_,R.g⟩;have lj:=(RY.mp es).1;by_cases z:j=i
 . subst z;rw[SV lj] at et;cases et;obtain⟨D,hl,h1,h2,h3,h4,h5,h6⟩:=R.p j y s ey es;exact⟨D,hl,h1,h2,h3,by rw[hp];exact h4,h5,by rw[hh];exact h6⟩
 . rw[Te z] at et;exact R.p i y t ey et
theorem DN(nd:hl.Nodup) a y:y∈zX hl a↔y∈hl/\y≠a:=by
 unfold zX;rw[<- List.erase_eq_eraseIdx_of_idxOf rfl,nd.mem_erase_iff];exact And.comm
theorem ID(nd:hl.Nodup) a:(zX hl a).Nodup:=by
 exact nd.sublist (List.eraseIdx_sublist ..)
noncomputable def CC:=(bS (aF (ao jE (eX 7 0) (aw (a2 (eS "get") (eS "put"))))) (ak (ai "_law_boxed" (ae (aa 0) (ae (aa 1) (a3 (aa 7) (aa 8) (aa 5))))) (gN 9)) (bS (aF (ao jE (eX 7 0) (aw (a2 (eS "take") (eS "free"))))) (ak (ai "_law_locked" (ae (aa 0) (ae (aa 1) (a3 (aa 7) (aa 8) (aa 6))))) (gN 9)) (bS (aF (ao jE (eX 7 0) (aw (a2 (eS "send") (eS "fetch"))))) (ak (ai "_law_laned" (ae (aa 0) (a3 (aa 1) (aa 7) (aa 5)))) (gN 9)) (bS (mQ (eX 7 0) (eS "say")) (ag (ak (HU (eX 0 3) (a1 (eX 7 1))) (gN 10))
  (ag (ak (aw (ae (eS "say") (ae (eX 7 1) (ae (ai "_law_worth" (a2 (eX 7 2) (aa 5))) (ae (ao aE (ao aE (aa 1) (eS "doors")) (aa 10)) aj))))) (gN 9))
  (gW fD (ao aE (aa 1) (eS "doors")) (aa 10) (ao aV (ao aE (ao aE (aa 1) (eS "doors")) (aa 10)) (eI 1))))) (ag (gW fD (aa 5) (eX 7 1) (aa 3))
  (ak (aw (ae (eX 7 0) (ae (vK (mQ (eX 7 0) (eS "hear")) (eX 7 2) (eS "")) (a2 (aa 3) (eC .non))))) (gN 9)))))))
theorem FE a b c h:jE (.str a) (.tup [.str b,.str c]) h= .ok (.bl (decide (a=b\/a=c))) h:=by
 have:=yU (a:=a) (ss:=[b,c]) (h:=h);simpa using this
section
variable{pg:Tb}(T:bH pg)
include T
theorem aah k (ok:P.Ok) (W:eK P N S) (N9:N<=60) (R:Rep H n P S S.ck) (ex:P.hs[j]?=fI x) (es:S.ck[j]?=fI s) (ec:S.aX[j]?=fI c) (er:x.2[s.row]?=fI r) (hw:c8 P S j= .non) (hg:fO r g) e4 :
  ∃(H1:PH)(f10:Option PV),Fr n P.hs.length H H1/\Rep H1 n P (met P S j c s g r).1 (S.ck.set j (after s (met P S j c s g r).2.1 r)) /\
   CC (run pg (k+10)) [fI P.v,fI (.ref n),fI (.int j),fI g,e4,fI (.ref (n+7+3*j)),fI (.ref (n+9+3*j)),fI (bO r),fI (kJ j c),ox,ox] H= .ok (.nx [fI P.v,fI (.ref n),fI (.int j),fI g,e4,fI (.ref (n+7+3*j)),fI (.ref (n+9+3*j)),fI (bO r),fI (kJ j c),fI (c7 r (met P S j c s g r).2.1 (met P S j c s g r).2.2),f10]) H1:=by
 have so:=W.se j x s ex es;have mr:=Se er;have C:=R.cells;have lj:=(RY.mp ex).1;obtain⟨l1,l2,l3⟩:=fM (ok.hd x (Se ex));obtain⟨D,hl,p1,p2,p3,p4,p5,p6⟩:=R.p j x s ex es;have hr:=l3 r mr;have hv:=zD ok W (c:=c) ex es er hw hg;have ow:=(iH so.re er).1;have cl:=(iH so.re er).2;obtain⟨v1,v2,v3,v4,v5,v6⟩:=d7 n;have ff:=funext p4;have ld:=aC p1;have ll:=aC p2;have hl9:=pN (by omega) p3;have gi:dA r=true-> ∀ y,r.gn=fI y->(∀ h,aE (bO r) (.int 1) h= .ok (.str y) h)-> ∃(H1:PH),Fr n P.hs.length H H1/\Rep H1 n P _ (S.ck.set j (after s (met P S j c s g r).2.1 r))/\ ∃ i:Int,g= .int i/\H1=H.set (n+7+3*j) (.bu (gA (putD D y i))):=λhq y hy _=>by
  obtain⟨i,rfl,h0,h9,_⟩:=hg.1 hq;refine⟨_,Fr.refl.set (by omega) (by omega),?_,i,rfl,rfl⟩;rw[(kj hq).2.2];exact R.put ex es (pI p3 (hr.pk hy) h0 h9) (λz=>by rw[jN hy,pR,p4];exact(vH so.so.pk.nd y i z).symm) (by rw[jN hy])
 cases r with
 | get y b =>
  have m:=bM ok ex mr rfl
  obtain⟨z,ez,mz⟩:=aZ (uv W) m
  have hz:=(W.bx z mz).1
  have st:=Bz T (k+9) ok W C (by omega) p1 p3 (y:=y) m ez (kJ j c)
  refine⟨_,ox,Fr.refl.set (i:=n+7+3*j) (o:= .bu (gA (putD D y z.1))) (by omega) (by omega),?_,?_⟩
  . simp only[met,ez,SE];exact R.put ex es (pI p3 hr hz.1 hz.2) (λq=>by rw[pR,p4];exact(vH so.so.pk.nd y z.1 q).symm) rfl
  . simp only[bO,Rw.w,Rw.ps] at st;simp? [CC,bO,Rw.w,Rw.ps,FE,st,met,ez,SE,c7,Rw.tg,Rw.th,true_or,or_true,or_false,false_or]
 | put b e =>
  have m:=bM ok ex mr (t:=b) rfl
  obtain⟨z,ez,mz⟩:=aZ (uv W) m
  have st:=aak T (k+1) ok W C p1 p3 hr m ez (ev:=kJ j c) rfl
  rw[ff] at st
  refine⟨_,ox,Fr.refl.set (i:=n+4) (o:= .lst ((S.jF.set ((P.nm 0).idxOf b) (e.val (fP s.ps),kJ j c)).map jA)) (by omega) (by omega),?_,?_⟩
  . refine Rep.JZ (s:=s) ?_ es rfl rfl;exact R.set (i:=4) (S':={ S with jF:=S.jF.set ((P.nm 0).idxOf b) (e.val (fP s.ps),kJ j c)}) (by decide) (by rintro (_ | _ | _ | _ | _ | _ | _ | _) a b<;>first | rfl | omega)
  . simp only[bO,Rw.w,Rw.ps] at st;simp? [CC,bO,Rw.w,Rw.ps,FE,st,met,ez,SE,c7,Rw.tg,Rw.th,true_or,or_true,or_false,false_or]
 | take l =>
  have m:=bM ok ex mr (k:=1) (t:=l) rfl
  obtain⟨z,ez,mz⟩:=aZ (l:=S.eV) (ns:=P.s1) W.l1 m
  have ez':S.eV[(P.nm 1).idxOf l]?=fI z:=ez
  have nl:l ∉ s.held:=by simpa [own] using ow
  have hh:hl.length<=1000:=by
   have:=Vi p5 (l₂ :=s.held) λy hy=>(p6 y).mp hy;have:=so.le;omega
  have st:=w6 T (k+9) (P:=P) C p2 (by omega) hh m ez j c
  refine⟨_,ox,(Fr.refl.set (i:=n+5) (o:= .lst ((S.eV.set (P.s1.idxOf l) (fI (j),z.2)).map gQ)) (by omega) (by omega)).set (i:=n+9+3*j) (o:= .lst ((hl++[l]).map PV.str)) (by omega) (by omega),?_,?_⟩
  . simp only[met,ez',SE];refine(R.set (i:=5) (S':={ S with eV:=S.eV.set (P.s1.idxOf l) (fI (j),z.2)}) (by decide) (by rintro (_ | _ | _ | _ | _ | _ | _ | _) a b<;>first | rfl | omega)).hold ex es ?_ (λy=>?_) rfl
    . exact U5.mpr ⟨p5,by simp,λa ha b hb e=>nl (by rw[<- Sf.mp hb,<- e];exact(p6 a).mp ha)⟩
    . show y∈hl++[l]↔y∈eA (s.held++[l]);rw[(eQ _).mem_iff,Ti,Ti,p6]
  . simp only[bO,Rw.w,Rw.ps] at st;simp? [CC,bO,Rw.w,Rw.ps,FE,st,met,ez',SE,c7,Rw.tg,Rw.th,true_or,or_true,or_false,false_or]
 | free l =>
  have m:=bM ok ex mr (k:=1) (t:=l) rfl
  obtain⟨z,ez,mz⟩:=aZ (l:=S.eV) (ns:=P.s1) W.l1 m
  have ih:l∈s.held:=by simpa [own] using ow
  have st:=aam T (k+9) (P:=P) C p2 (by omega) ((p6 l).mpr ih) m ez j c
  refine⟨_,ox,(Fr.refl.set (i:=n+5) (o:= .lst ((S.eV.set (P.s1.idxOf l) (ox,kJ j c)).map gQ)) (by omega) (by omega)).set (i:=n+9+3*j) (o:= .lst ((zX hl l).map PV.str)) (by omega) (by omega),?_,?_⟩
  . refine(R.set (i:=5) (S':={ S with eV:=S.eV.set (P.s1.idxOf l) (ox,kJ j c)}) (by decide) (by rintro (_ | _ | _ | _ | _ | _ | _ | _) a b<;>first | rfl | omega)).hold ex es (ID p5 l) (λy=>?_) rfl;rw[DN p5,p6];show _↔y∈s.held.filter λz=> !decide (z=l);rw[Uu];simp
  . simp only[bO,Rw.w,Rw.ps] at st;simp? [CC,bO,Rw.w,Rw.ps,FE,st,met,c7,Rw.tg,Rw.th,true_or,or_true,or_false,false_or]
 | send l e =>
  have m:=bM ok ex mr (k:=2) (t:=l) rfl
  obtain⟨z,ez,mz⟩:=aZ (l:=S.de) (ns:=P.s2) W.l2 m
  have ez':S.de[(P.nm 2).idxOf l]?=fI z:=ez
  have hz:=(W.ln z mz).2.2.1
  have st:=yX T (k+1) (P:=P) C p1 p3 hr m ez (by omega)
  rw[ff] at st
  refine⟨_,ox,Fr.refl.set (i:=n+6) (o:= .lst ((S.de.set (P.s2.idxOf l) (z.1+1,z.2.1,z.2.2++[e.val (fP s.ps)])).map gL)) (by omega) (by omega),?_,?_⟩
  . simp only[met,ez',SE];refine Rep.JZ (s:=s) ?_ es rfl rfl;exact R.set (i:=6) (S':={ S with de:=S.de.set (P.s2.idxOf l) (z.1+1,z.2.1,z.2.2++[e.val (fP s.ps)])}) (by decide) (by rintro (_ | _ | _ | _ | _ | _ | _ | _) a b<;>first | rfl | omega)
  . simp only[bO,Rw.w,Rw.ps] at st;simp? [CC,bO,Rw.w,Rw.ps,FE,st,met,ez',SE,c7,Rw.tg,Rw.th,true_or,or_true,or_false,false_or]
 | fetch y l =>
  have m:=bM ok ex mr (k:=2) (t:=l) rfl
  obtain⟨z,ez,mz⟩:=aZ (l:=S.de) (ns:=P.s2) W.l2 m
  obtain⟨a,b,i,ls,rfl⟩:=qh ex es er hw (z:=z) ez
  have ez':S.de[(P.nm 2).idxOf l]?=fI (a,b,i::ls):=ez
  have hi:=(W.ln _ mz).2.2.2 i So
  have st:=xx T (k+9) (P:=P) C p1 (by omega) (by omega) p3 (y:=y) m ez
  refine⟨_,ox,(Fr.refl.set (i:=n+6) (o:= .lst ((S.de.set (P.s2.idxOf l) (a,b+1,ls)).map gL)) (by omega) (by omega)).set (i:=n+7+3*j) (o:= .bu (gA (putD D y i))) (by omega) (by omega),?_,?_⟩
  . simp only[met,ez',SE,G5,W5];refine(R.set (i:=6) (S':={ S with de:=S.de.set (P.s2.idxOf l) (a,b+1,ls)}) (by decide) (by rintro (_ | _ | _ | _ | _ | _ | _ | _) a b<;>first | rfl | omega)).put ex es (pI p3 hr hi.1 hi.2) (λq=>?_) rfl;rw[pR,p4];exact(vH so.so.pk.nd y i q).symm
  . simp only[bO,Rw.w,Rw.ps] at st;simp? [CC,bO,Rw.w,Rw.ps,FE,st,met,ez',SE,W5,c7,Rw.tg,Rw.th,true_or,or_true,or_false,false_or]
 | say d e =>
  have m:d∈P.s3:=bM ok ex mr (k:=3) (t:=d) rfl
  obtain⟨z,ez,mz⟩:=aZ (l:=S.l6) (ns:=P.s3) W.l3 m
  have ez':S.l6[(P.nm 3).idxOf d]?=fI z:=ez
  have j3: ∀ g,aE P.v (.int 3) g= .ok (.tup (P.s3.map PV.str)) g:=λg=>Cd
  have at_:=ba (f:=PV.int) ez
  have lk:=(RY.mp ez).1
  have w:run pg (k+10) "_law_worth" [lU e,.ref (n+7+3*j)] H= .ok (.int (e.val (fP s.ps))) H:=by
   rw[<- ff];exact pW T p3.CH e (k+9) _ p1 hr.1 (by have:=hr.2;omega)
  have pl:=λh v=>mY (h:=h) (n:=n+3) (xs:=S.l6.map PV.int) (v:=v) (i:=(P.s3.idxOf d)) rfl (by rw[xn];exact lk)
  have bB:(S.l6.map PV.int).set (P.s3.idxOf d) (.int (z+1))=(S.l6.set (P.s3.idxOf d) (z+1)).map PV.int:=bP PV.int S.l6 _ (z+1)
  refine⟨_,fI (.int (P.s3.idxOf d)),Fr.refl.set (i:=n+3) (o:= .lst ((S.l6.set (P.s3.idxOf d) (z+1)).map PV.int)) (by omega) (by omega),?_,?_⟩
  . simp only[met,ez',SE];refine Rep.JZ (s:=s) ?_ es rfl rfl;exact R.set (i:=3) (S':={ S with l6:=S.l6.set (P.s3.idxOf d) (z+1)}) (by decide) (by rintro (_ | _ | _ | _ | _ | _ | _ | _) a b<;>first | rfl | omega)
  . simp? [CC,bO,Rw.w,Rw.ps,FE,j3,nq,iX,jn m,w,C.e0,v3,C.e3,at_,pl,bB,met,ez',SE,c7,Rw.tg,Rw.th,true_or,or_true,or_false,false_or]
 | clock y =>
  obtain⟨H1,f,rp,i,rfl,rfl⟩:=gi rfl y rfl (λh=>ig)
  refine⟨_,ox,f,rp,?_⟩
  simp? [CC,bO,Rw.w,Rw.ps,FE,p1,mP hl9,kr,met,c7,Rw.tg,Rw.th,true_or,or_true,or_false,false_or]
 | lot y q =>
  obtain⟨H1,f,rp,i,rfl,rfl⟩:=gi rfl y rfl (λh=>ig)
  refine⟨_,ox,f,rp,?_⟩
  simp? [CC,bO,Rw.w,Rw.ps,FE,p1,mP hl9,kr,met,c7,Rw.tg,Rw.th,true_or,or_true,or_false,false_or]
 | hear y d =>
  obtain⟨H1,f,rp,i,rfl,rfl⟩:=gi rfl y rfl (λh=>ig)
  refine⟨_,ox,f,rp,?_⟩
  simp? [CC,bO,Rw.w,Rw.ps,FE,p1,mP hl9,kr,met,c7,Rw.tg,Rw.th,true_or,or_true,or_false,false_or]
 | let_ _ _=>cases ow
 | leap _ _=>cases ow
end
section
variable{pg:Tb}(T:bH pg)
include T
theorem Ba k (ok:P.Ok) (W:eK P N S) (N9:N<=60) (R:Rep H n P S S.ck) (ex:P.hs[j]?=fI x) (es:S.ck[j]?=fI s) (ec:S.aX[j]?=fI c) (er:x.2[s.row]?=fI r) (hw:c8 P S j= .non) (hg:fO r g) :
  ∃ H1 ,Fr n P.hs.length H H1/\Rep H1 n P (cz P S j c x.2 s g r) (cz P S j c x.2 s g r).ck/\run pg (k+11) "_law_go" [P.v,.ref n,.int j,g] H= .ok (c7 r (met P S j c s g r).2.1 (met P S j c s g r).2.2) H1:=by
 have C:=R.cells;have lj:=(RY.mp ex).1;have so:=W.se j x s ex es;obtain⟨l1,l2,l3⟩:=fM (ok.hd x (Se ex));obtain⟨v1,v2,v3,v4,v5,v6⟩:=d7 n;obtain⟨H1,f10,F1,R1,A4⟩:=aah T k ok W N9 R ex es ec er hw hg _;have hv:=zD ok W (c:=c) ex es er hw hg;have mc:(met P S j c s g r).1.aX=S.aX/\(met P S j c s g r).1.ck=S.ck:=by cases r<;>exact⟨rfl,rfl⟩
 let M:=(met P S j c s g r).1
 let v:=(met P S j c s g r).2.1
 let m:=(met P S j c s g r).2.2
 let t:=after s v r
 have lc:=(RY.mp ec).1;have ls:=(RY.mp es).1;have R2:=R1.set (i:=1) (S':={ M with aX:=S.aX.set j (c+1)}) (by decide) (by rintro (_ | _ | _ | _ | _ | _ | _ | _) a b<;>first | rfl | omega)
 let H2:=H1.set (n+1) (.lst ((S.aX.set j (c+1)).map PV.int))
 have et:(S.ck.set j t)[j]?=fI t:=SV ls;have hs1:=wM so.so er (l3 r (Se er)) hv;obtain⟨D,hl,p1,p2,p3,p4,p5,p6⟩:=R2.p j x t ex et;obtain⟨D',d1,d2,d3⟩:=Ah T k H2 (by omega) (by omega) l3 p1 p2 p6 hs1 p3 p4
 let t':=bq x.2 200 t
 have R3:Rep (H2.set (n+7+3*j) (.bu (gA D'))) n P _ ((S.ck.set j t).set j t'):=R2.put ex et d1 d2 (cy 200 t);rw[List.set_set] at R3
 let H3:=H2.set (n+7+3*j) (.bu (gA D'))
 have R4:=R3.set (i:=2) (S':={ M with aX:=S.aX.set j _,ck:=S.ck.set j t'}) (by decide) (by rintro (_ | _ | _ | _ | _ | _ | _ | _) a b<;>first | rfl | omega);have Sw:cz P S j c x.2 s g r={ M with aX:=S.aX.set j (c+1),ck:=S.ck.set j t'}:=by
  show gq M j c t'=_;unfold gq;have e1:=mc.1;have e2:=mc.2;rw[e1,e2]
 refine⟨H3.set (n+2) (.lst (sL n (S.ck.set j t'))),((F1.set (by omega) (by omega)).set (by omega) (by omega)).set (by omega) (by omega),by rw[Sw];exact R4,?_⟩;have ro:=lC T (k+9) W C lj;rw[dR ex es,er] at ro;have ro':run pg _ _ _ H= .ok (bO r) H:=ro;have C1:=R1.cells;have C2:=R2.cells;have C3:=R3.cells;have se:fK _ (j:Int)=fI (FA n j s):=_P.dS rfl (CS es);have ac:fK (S.aX.map PV.int) (j:Int)=fI (.int c):=ba ec;have i4: ∀ g,aE P.v (.int 4) g= .ok (.tup (P.hs.map bR)) g:=λg=>uk;have ih: ∀ g,aE (.tup (P.hs.map bR)) (.int j) g= .ok (bR x) g:=λg=>jX (ba ex);have i1: ∀ g,aE (bR x) (.int 1) g= .ok (bZ x.2) g:=λg=>ig;have up:((s.row)+1)=((t.row):Int):=by show _=(((after s v r).row):Int);rw[BD];omega
 have pc:=λh w=>mY (h:=h) (n:=n+1) (xs:=S.aX.map PV.int) (v:=w) rfl (by rw[xn];exact lc);have bc:=bP PV.int S.aX j (c+1);have ps:=λh w=>mY (h:=h) (n:=n+2) (xs:=sL n S.ck) (v:=w) rfl (by rw[zQ];exact ls);have bs:(sL n S.ck).set j (.tup [.int t'.row,.ref (n+7+3*j),.ref (n+9+3*j)])=sL n (S.ck.set j t'):=JY n j S.ck t';have c11:H1[n+1]?=fI (.lst (S.aX.map PV.int)):=by have:=C1.e1;rw[mc.1] at this;exact this
 have c32:H3[n+2]?=fI (.lst (sL n S.ck)):=by
  have:=C3.e2;have e2:=mc.2;show _=fI (PO.lst (sL n S.ck));rw[<- e2];exact this
 have c10:=C1.e0;have c30:H3[n]?=fI (.bu (tr n)):=C3.e0;have d3':run pg (k+10) "_law_rest" [bZ x.2,.int t.row,.ref (n+7+3*j),.ref (n+9+3*j)] H2= .ok (.int t'.row) H3:=d3;have h2:H1.set (n+1) (.lst ((S.aX.set j (c+1)).map PV.int))=H2:=rfl;have A:nW (run pg (k+10)) [fI P.v,fI (.ref n),fI (.int j),fI g,ox,ox,ox,ox,ox,ox,ox] H= .ok (.rt (c7 r v m)) (H3.set (n+2) (.lst (sL n (S.ck.set j t')))):=by
  show ag _ (ag _ (ag _ (ag CC (ag _ (ag _ _))))) _ _ _=_;refine(aR (e1:=[fI P.v,fI (.ref n),fI (.int j),fI g,fI (.int s.row),fI (.ref (n+7+3*j)),fI (.ref (n+9+3*j)),ox,ox,ox,ox]) (h1:=H) ?_).trans ?_
  . simp? [C.e0,v2,C.e2,se,FA]
  refine(aR (e1:=[fI P.v,fI (.ref n),fI (.int j),fI g,fI (.int s.row),fI (.ref (n+7+3*j)),fI (.ref (n+9+3*j)),fI (bO r),ox,ox,ox]) (h1:=H) ?_).trans ?_
  . simp? [ro']
  refine(aR (e1:=[fI P.v,fI (.ref n),fI (.int j),fI g,fI (.int s.row),fI (.ref (n+7+3*j)),fI (.ref (n+9+3*j)),fI (bO r),fI (kJ j c),ox,ox]) (h1:=H) ?_).trans ?_
  . simp? [C.e0,v1,C.e1,ac,kJ]
  refine(aR A4).trans ?_;refine(aR (e1:=[fI P.v,fI (.ref n),fI (.int j),fI g,fI (.int s.row),fI (.ref (n+7+3*j)),fI (.ref (n+9+3*j)),fI (bO r),fI (kJ j c),fI (c7 r v m),f10]) (h1:=H2) ?_).trans ?_
  . simp? [c10,v1,c11,kJ,pc,bc,h2];rfl
  clear_value H3 t t' v m
  clear_value H2
  simp? [i4,ih,i1,up,d3',c30,v2,c32,ps,bs]
 rw[run_eq T.BY rfl];show fin _ (nW (run pg (k+10)) [fI P.v,fI (.ref n),fI (.int j),fI g,ox,ox,ox,ox,ox,ox,ox] H)=_;rw[A,lM];exact gI (by rw[Td,Td,Td];exact F1.len)
end
theorem rI.up(h:rI N v):rI (N+1) v:=by
 rcases h with h | ⟨a,b,h,h1,h2,h3,h4⟩
 . exact .inl h
 . exact .inr ⟨a,b,h,h1,h2,h3,by omega⟩
theorem NG.up(h:NG P N x s):NG P (N+1) x s:=⟨h.so,h.nd,by have:=h.le;omega,h.re,h.nm,h.sr⟩
theorem eK.up(W:eK P N S):eK P (N+1) S where
 lc:=W.lc
 ls:=W.ls
 l0:=W.l0
 l1:=W.l1
 l2:=W.l2
 l3:=W.l3
 ct c m:=by have:=W.ct c m;omega
 bx b m:=⟨(W.bx b m).1,(W.bx b m).2.up⟩
 lk l m:=⟨(W.lk l m).1,(W.lk l m).2.up⟩
 ln n m:=by have:=W.ln n m;exact⟨by omega,by omega,by omega,this.2.2.2⟩
 dr d m:=by have:=W.dr d m;omega
 se j x s e1 e2:=(W.se j x s e1 e2).up
theorem Md(ok:P.Ok)(W:eK P N S)(ex:P.hs[j]?=fI x)(es:S.ck[j]?=fI s)(ec:S.aX[j]?=fI c)(er:x.2[s.row]?=fI r)(hw:c8 P S j= .non)(hg:fO r g):eK P (N+1) (met P S j c s g r).1:=by
 have mr:=Se er;have U:=W.up;have lj:=(RY.mp ex).1;have hm:=ok.many;have hc:=W.ct c (Se ec);have so:=W.se j x s ex es;obtain⟨l1,l2,l3⟩:=fM (ok.hd x (Se ex));have hr:=l3 r mr;have CH: ∀ e:Sm,jY e->0<=e.val _/\e.val _<=999:=λe he=>Sm.nY (xX λq m=>(so.so.pk.mem q m).2) e he.1;have mk:rI (N+1) _:= .inr ⟨j,c,rfl,by omega,by omega,by omega,by omega⟩;cases r with
 | get y b=>exact U
 | put b e=>exact{ U with
   l0:=by rw[<- U.l0];exact Td
   bx:=λq m=>by
    rcases Tz m with m | rfl
    . exact U.bx q m
    . exact⟨CH e hr,mk⟩}
 | take l =>
  obtain⟨z,ez,mz⟩:=aZ (ns:=P.nm 1) W.l1 (bM ok ex mr rfl)
  simp only[met,ez,SE]
  exact{ U with
   l1:=by rw[<- U.l1];exact Td
   lk:=λq m=>by
    rcases Tz m with m | rfl
    . exact U.lk q m
    . exact⟨λi e=>by cases e;omega,(U.lk z mz).2⟩}
 | free l=>exact{ U with
   l1:=by rw[<- U.l1];exact Td
   lk:=λq m=>by
    rcases Tz m with m | rfl
    . exact U.lk q m
    . exact⟨λi e=>(by cases e),mk⟩}
 | send l e =>
  obtain⟨z,ez,mz⟩:=aZ (ns:=P.nm 2) W.l2 (bM ok ex mr rfl)
  have hz:=W.ln z mz
  simp only[met,ez,SE]
  exact{ U with
   l2:=by rw[<- U.l2];exact Td
   ln:=λq m=>by
    rcases Tz m with m | rfl
    . exact U.ln q m
    . refine⟨by show 0<=z.1+1/\z.1+1<=((N+1));omega,by show 0<=z.2.1/\z.2.1<=((N+1));omega,by simp_all,λv mv=>?_⟩;rcases Ti.mp mv with mv | mv
      . exact hz.2.2.2 v mv
      . rw[Sf.mp mv];exact CH e hr}
 | fetch y l =>
  obtain⟨z,ez,mz⟩:=aZ (ns:=P.nm 2) W.l2 (bM ok ex mr rfl)
  have hz:=W.ln z mz
  simp only[met,ez,SE]
  exact{ U with
   l2:=by rw[<- U.l2];exact Td
   ln:=λq m=>by
    rcases Tz m with m | rfl
    . exact U.ln q m
    . refine⟨by show 0<=z.1/\z.1<=((N+1));omega,by show 0<=z.2.1+1/\z.2.1+1<=((N+1));omega,by rw[List.length_tail];omega,λv mv=>hz.2.2.2 v (List.mem_of_mem_tail mv)⟩}
 | say d e =>
  obtain⟨z,ez,mz⟩:=aZ (ns:=P.nm 3) W.l3 (bM ok ex mr rfl)
  have hz:=W.dr z mz
  simp only[met,ez,SE]
  exact{ U with
   l3:=by rw[<- U.l3];exact Td
   dr:=λq m=>by
    rcases Tz m with m | rfl
    . exact U.dr q m
    . omega}
 | _=>exact U
theorem AF(ok:P.Ok)(W:eK P N S)(ex:P.hs[j]?=fI x)(es:S.ck[j]?=fI s)(ec:S.aX[j]?=fI c)(er:x.2[s.row]?=fI r)(hw:c8 P S j= .non)(hg:fO r g):eK P (N+1) (cz P S j c x.2 s g r):=by
 have mr:=Se er;have M:=Md ok W ex es ec er hw hg;have mc:(met P S j c s g r).1.aX=S.aX/\(met P S j c s g r).1.ck=S.ck:=by cases r<;>exact⟨rfl,rfl⟩
 have so:=W.se j x s ex es;have hc:=W.ct c (Se ec);obtain⟨l1,l2,l3⟩:=fM (ok.hd x (Se ex));have hv:=zD ok W (c:=c) ex es er hw hg;have ow:=(iH so.re er).1;have ls:=(RY.mp es).1;have hh:(after s (met P S j c s g r).2.1 r).held.Nodup/\(after s (met P S j c s g r).2.1 r).held.length<=N+1/\(∀ l∈(after s (met P S j c s g r).2.1 r).held,l∈P.s1)/\(after s (met P S j c s g r).2.1 r).held.Pairwise kE:=by
  have le:=so.le;rcases rw_cls r with⟨y,hy⟩ | ⟨l,rfl⟩ | ⟨l,rfl⟩ | ⟨_,af⟩
  . rw[jN hy];exact⟨so.nd,by show s.held.length<=_;omega,so.nm,so.sr⟩
  . have nl:l ∉ s.held:=by simpa [own] using ow
    have eF:(s.held++[l]).Nodup:=U5.mpr ⟨so.nd,by simp,λa ha b hb e=>nl (by rw[<- Sf.mp hb,<- e];exact ha)⟩;refine⟨?_,?_,λy hy=>?_,BE eF⟩
    . show(eA _).Nodup;rw[(eQ _).nodup_iff];exact eF
    . show(eA _).length<=_;rw[(eQ _).length_eq];simp;omega
    . have hy':y∈eA _:=hy;rw[(eQ _).mem_iff,Ti] at hy';rcases hy' with hy' | hy'
      . exact so.nm y hy'
      . rw[Sf.mp hy'];exact bM ok ex mr rfl
  . refine⟨so.nd.sublist W9,?_,λy hy=>so.nm y (Uu.mp hy).1,so.sr.sublist W9⟩;exact Sx (VA _ _) (by omega)
  . rw[af];exact⟨so.nd,by show s.held.length<=_;omega,so.nm,so.sr⟩
 exact{ M with
  lc:=by rw[<- M.lc];exact Td
  ls:=by rw[<- M.ls];exact Td
  ct:=λq m=>by
   rcases Tz m with m | rfl
   . exact M.ct q m
   . omega
  se:=λi y t ey et=>by
   have et':(S.ck.set j (bq x.2 200 (after s (met P S j c s g r).2.1 r)))[i]?=fI t:=by rw[<- mc.2];exact et
   by_cases z:j=i
   . subst z;rw[SV ls] at et';rw[ex] at ey;cases et';cases ey;exact⟨qR l3 200 _ (wM so.so er (l3 r mr) hv),by rw[cy];exact hh.1,by rw[cy];exact hh.2.1,jt 200 _,by rw[cy];exact hh.2.2.1,by rw[cy];exact hh.2.2.2⟩
   . rw[Te z] at et';exact(W.se i y t ey et').up}
theorem Am{α :Type}{f}: ∀{l:List α},(∀ x∈l,AA (f x)=true)->nc (l.map f)=true
 | [],_=>rfl
 | x::r,h=>by rw[R9,nc,h x So,Am λz m=>h z (Sk _ m)];rfl
theorem Ay{α :Type}{f}: ∀{l:List α},(∀ x∈l,Jm (f x)<=c)->Je (l.map f)<=(c+1)*l.length
 | [],_=>SX _
 | x::r,h=>by
  have h1:=h x So;have h2:=Ay λz m=>h z (Sk _ m);rw[R9,Je,Sb,Nat.mul_succ];omega
theorem vy{α :Type}{f}: ∀{l:List α},(∀ x∈l,rY (f x)<=c)->jW (l.map f)<=c
 | [],_=>SX _
 | x::r,h=>by
  have h1:=h x So;have h2:=vy λz m=>h z (Sk _ m);rw[R9,jW];omega
structure Sh(b d:Nat)(v:PV):Prop where
 ok:AA v=true
 bk:Jm v<=b
 dp:rY v<=d
theorem eL{α :Type}{f}{l:List α} n (hl:l.length<=n) (h: ∀ x∈l,Sh b d (f x)):Sh ((b+1)*n) (d+1) (.tup (l.map f)) :=
 ⟨by exact Am λx m=>(h x m).ok,by exact Sx (Ay λx m=>(h x m).bk) (Nat.mul_le_mul_left _ hl),by rw[rY];have:=vy λx m=>(h x m).dp;omega⟩
theorem ui(h:yg x=true):Sh 20 0 (.str x):=⟨h,Ll h,Si _⟩
theorem cv(h0:0<=i)(h1:i<=1000000):Sh 0 0 (.int i):=⟨by rw[AA,decide_eq_true_eq];exact⟨h0,h1⟩,Si _,Si _⟩
theorem lD:Sh 0 0 .non:=⟨rfl,Si _,Si _⟩
theorem rq d:Sh 0 (d+1) (.tup []):=⟨rfl,Si _,WD (SX _)⟩
theorem dM d (h:Sh b e v) (t:Sh c (d+1) (.tup vs)) (he:autoParam (e<=d) cT):Sh (b+1+c) (d+1) (.tup (v::vs)):=by
 have t1:=t.ok;have t2:=t.bk;have t3:=t.dp;have h2:=h.bk;have h3:=h.dp;rw[AA] at t1;rw[Jm] at t2;rw[rY] at t3;exact⟨by rw[AA,nc,h.ok,t1];rfl,by rw[Jm,Je];omega,by rw[rY,jW];omega⟩
theorem Sh.up{e}(h:Sh b d v)(hb:autoParam (b<=c) cT)(hd:autoParam (d<=e) cT):Sh c e v:=⟨h.ok,Sx h.bk hb,Sx h.dp hd⟩
theorem Sh.show(h:Sh b d (.tup xs))(hb:autoParam (b<=1000000) cT)(hd:autoParam (d<=61) cT): ∃ x ,∀ g,iy [.tup xs] g= .ok (.str x) g:=by
 have h1:=h.ok;have h2:=h.bk;have h3:=h.dp;rw[Jm] at h2;rw[rY] at h3;exact HG h1 (by omega) (by omega)
theorem JD{P:Pg}(ok:P.Ok)(m:t∈P.nm k):yg t=true:=by
 match k,m with
 | 0,m =>
  obtain⟨z,mz,rfl⟩:=SS.mp (show t∈P.bs.map (·.1) from m)
  exact tE (ok.bx.2 z mz).1
 | 1,m=>exact tE (ok.nm.1.2 t m).1
 | 2,m=>exact tE (ok.nm.2.1.2 t m).1
 | _+3,m=>exact tE (ok.nm.2.2.2 t m).1
theorem x7(N9:N<=100)(h:rI N v):Sh 2 1 v:=by
 rcases h with rfl | ⟨a,b,rfl,h1,h2,h3,h4⟩
 . exact lD.up
 . exact dM 0 (cv h1 (by omega)) (dM 0 (cv h3 (by omega)) (rq 0))
theorem D8(ok:P.Ok)(N9:N<=100)(W:eK P N S):Sh 100000 5 (az S):=by
 have hm:=ok.many;have a0:Sh _ 1 (.tup (S.aX.map PV.int)):=eL 4 (by rw[W.lc];omega) λc m=>by have:=W.ct c m;exact cv (by omega) (by omega)
 have a1:Sh ((2500+1)*4) 4 (.tup (S.ck.map aO)):=eL 4 (by rw[W.ls];omega) λs m=>by
  obtain⟨j,hj,ej⟩:=ZT m;have es:S.ck[j]?=fI s:=by rw[<- ej];exact R6 hj
  have hj':j < P.hs.length:=by rw[<- W.ls];exact hj
  have so:=W.se j _ s (R6 hj') es;obtain⟨l1,l2,l3⟩:=fM (ok.hd _ (Uw hj'));have hd:=(ok.hd _ (Uw hj')).1;have pl:=so.so.pk.len;have le:=so.so.le;have p1:Sh _ 2 (.tup (s.ps.map eW)):=eL 6 (by omega) λz mz=>by
   have:=so.so.pk.mem z mz;exact dM 0 (ui (l2 _ this.1)) (dM 0 (cv (by omega) (by omega)) (rq 0))
  have p2:=eL 100 (by have:=so.le;omega) λz mz=>ui (JD ok (k:=1) (so.nm z mz));exact(dM 2 (cv (by omega) (by omega)) (dM 2 p1 (dM 2 p2 (rq 2)))).up
 have a2:Sh _ 3 (.tup (S.jF.map jA)):=eL 20 (by rw[W.l0];exact ok.bx.1) λz m=>by
  have:=W.bx z m;exact dM 1 (cv (by omega) (by omega)) (dM 1 (x7 N9 this.2) (rq 1))
 have a3:Sh ((4+1)*20) 3 (.tup (S.eV.map gQ)):=eL 20 (by rw[W.l1];exact ok.nm.1.1) λz m=>by
  have:=W.lk z m;refine dM 1 (e:=0) ?_ (dM 1 (x7 N9 this.2) (rq 1));cases e:z.1 with
  | none=>exact lD
  | some i=>have:=this.1 i e;exact cv this.1 (by omega)
 have a4:Sh _ 3 (.tup (S.de.map gL)):=eL 20 (by rw[W.l2];exact ok.nm.2.1.1) λz m=>by
  have:=W.ln z m;have q:Sh _ 1 (.tup (z.2.2.map PV.int)):=eL 100 (by omega) λv mv=>by have:=this.2.2.2 v mv;exact cv this.1 (by omega)
  exact dM 1 (cv (by omega) (by omega)) (dM 1 (cv (by omega) (by omega)) (dM 1 q (rq 1)))
 have a5:Sh _ 1 (.tup (S.l6.map PV.int)):=eL 20 (by rw[W.l3];exact ok.nm.2.2.1) λz m=>by have:=W.dr z m;exact cv (by omega) (by omega)
 exact(dM 4 a0 (dM 4 a1 (dM 4 a2 (dM 4 a3 (dM 4 a4 (dM 4 a5 (rq 4))))))).up
theorem Mf(ok:P.Ok)(N9:N<=100)(W:eK P N S)(ex:P.hs[j]?=fI x)(es:S.ck[j]?=fI s)(er:x.2[s.row]?=fI r)(hg:fO r g):Sh 0 0 g/\Sh 0 0 (met P S j c s g r).2.1/\Sh 2 1 (met P S j c s g r).2.2:=by
 have mr:=Se er;have so:=W.se j x s ex es;obtain⟨l1,l2,l3⟩:=fM (ok.hd x (Se ex));have hr:=l3 r mr;have CH: ∀ e:Sm,jY e->Sh 0 0 _:=λe he=>by
  have:=Sm.nY (xX λq m=>(so.so.pk.mem q m).2) e he.1;exact cv this.1 (by omega)
 have gs:Sh 0 0 g:=by
  cases e:dA r with
  | true=>obtain⟨i,rfl,h0,h9,_⟩:=hg.1 e;exact cv h0 (by omega)
  | false=>rw[hg.2 e];exact lD
 refine⟨gs,?_⟩;cases r with
 | get y b =>
  obtain⟨z,ez,mz⟩:=aZ (by rw[W.l0];exact(xn ..).symm) (bM ok ex mr rfl)
  have:=W.bx z mz
  simp only[met,ez,SE]
  exact⟨cv this.1.1 (by omega),x7 N9 this.2⟩
 | put b e =>
  obtain⟨z,ez,mz⟩:=aZ (by rw[W.l0];exact(xn ..).symm) (bM ok ex mr rfl)
  simp only[met,ez]
  exact⟨CH e hr,x7 N9 (W.bx z mz).2⟩
 | take l =>
  obtain⟨z,ez,mz⟩:=aZ (ns:=P.nm 1) W.l1 (bM ok ex mr rfl)
  simp only[met,ez]
  exact⟨lD,x7 N9 (W.lk z mz).2⟩
 | free l=>exact⟨lD,lD.up⟩
 | send l e =>
  obtain⟨z,ez,mz⟩:=aZ (ns:=P.nm 2) W.l2 (bM ok ex mr rfl)
  have:=W.ln z mz
  simp only[met,ez]
  exact⟨CH e hr,(cv this.1.1 (by omega)).up⟩
 | fetch y l =>
  obtain⟨z,ez,mz⟩:=aZ (ns:=P.nm 2) W.l2 (bM ok ex mr rfl)
  have:=W.ln z mz
  simp only[met,ez,SE]
  refine⟨?_,(cv this.2.1.1 (by omega)).up⟩
  cases q:z.2.2 with
  | nil=>exact cv (by decide) (by decide)
  | cons i ls=>have:=this.2.2.2 i (by rw[q];exact So);exact cv this.1 (by show i<=_;omega)
 | say d e =>
  obtain⟨z,ez,mz⟩:=aZ (ns:=P.nm 3) W.l3 (bM ok ex mr rfl)
  have:=W.dr z mz
  simp only[met,ez]
  exact⟨CH e hr,(cv this.1 (by omega)).up⟩
 | _=>exact⟨gs,lD.up⟩
theorem Oh{P:Pg}(ok:P.Ok){j:Nat}(ex:P.hs[j]?=fI x)(m:r∈x.2):yg r.w=true/\yg r.tg=true:=by
 have e0:yg "" =true:=by rfl
 have nn: ∀ k t,r.nm=fI (k,t)->yg t=true:=λk t q=>JD ok (E0 ok ex m q);cases r<;>first | exact⟨by rfl,nn _ _ rfl⟩ | exact⟨by rfl,e0⟩
structure zv(P:Pg)(S:Wd)(j:Nat)(g l:PV)(S1:Wd):Prop where
 at_: ∃ x s c r,P.hs[j]?=fI x/\S.ck[j]?=fI s/\S.aX[j]?=fI c/\x.2[s.row]?=fI r/\c8 P S j= .non/\fO r g/\S1=cz P S j c x.2 s g r/\l=c7 r (met P S j c s g r).2.1 (met P S j c s g r).2.2
inductive Wk(P:Pg):Wd->List (Nat × PV × PV)->Wd->Prop
 | nil (S:Wd):Wk P S [] S
 | cons {S S1 S2:Wd} {j:Nat} {g l:PV} {r:List (Nat × PV × PV)} (h:zv P S j g l S1) (t:Wk P S1 r S2):Wk P S ((j,g,l)::r) S2
theorem Wk.app(h:Wk P S a S1)(t:Wk P S1 b S2):Wk P S (a++b) S2:=by
 induction h with
 | nil=>exact t
 | cons h _ ih=>exact .cons h (ih t)
theorem Wk.split: ∀{a b S S2},Wk P S (a++b) S2-> ∃ S1,Wk P S a S1/\Wk P S1 b S2
 | [],b,S,S2,h=>⟨S,.nil S,h⟩
 | z::a,b,S,S2,h=>by
  cases h with
  | cons h t=>obtain⟨S1,h1,h2⟩:=Wk.split t;exact⟨S1,.cons h h1,h2⟩
noncomputable def bz(z:Nat × PV × PV):PV:= .tup [eO z.1,z.2.1]
noncomputable def cJ(z:Nat × PV × PV):PV:= .tup [eO z.1,z.2.2]
theorem zv.ok(ok:P.Ok)(W:eK P N S)(h:zv P S j g l S1):eK P (N+1) S1:=by
 obtain⟨x,s,c,r,ex,es,ec,er,hw,hg,rfl,rfl⟩:=h.at_;exact AF ok W ex es ec er hw hg
theorem Wk.ok(ok:P.Ok)(h:Wk P S a S2): ∀{N},eK P N S->eK P (N+a.length) S2:=by
 induction h with
 | nil=>exact λW=>W
 | cons h _ ih=>intro N W;have:=ih (h.ok ok W);rw[Sb,YY _ 1,<- Yl];exact this
theorem zv.sh(ok:P.Ok)(N9:N<=100)(W:eK P N S)(h:zv P S j g l S1):j < P.hs.length/\Sh 0 0 g/\Sh 60 2 l:=by
 obtain⟨x,s,c,r,ex,es,ec,er,hw,hg,rfl,rfl⟩:=h.at_;obtain⟨m1,m2,m3⟩:=Mf ok N9 W ex es er hg;obtain⟨t1,t2⟩:=Oh ok ex (Se er);exact⟨(RY.mp ex).1,m1,(dM 1 (ui t1) (dM 1 (ui t2) (dM 1 m2 (dM 1 m3 (rq 1))))).up⟩
theorem Wk.sh(ok:P.Ok)(h:Wk P S a S2): ∀{N},N+a.length<=100->eK P N S-> ∀ z∈a,z.1 < P.hs.length/\Sh 0 0 z.2.1/\Sh 60 2 z.2.2:=by
 induction h with
 | nil=>simp_all
 | cons h _ ih =>
  intro N hN W z m
  rw[Sb] at hN
  rcases Sd.mp m with rfl | m
  . exact h.sh ok (by omega) W
  . exact ih (by omega) (h.ok ok W) z m
theorem EN{P:Pg}(ok:P.Ok){a:List (Nat × PV × PV)}(hl:a.length<=100)(h: ∀ z∈a,z.1 < P.hs.length/\Sh 0 0 z.2.1/\Sh 60 2 z.2.2):Sh 300 2 (.tup (a.map bz))/\Sh 6300 4 (.tup (a.map cJ)):=by
 have hm:=ok.many;refine⟨(eL (b:=2) (d:=1) 100 hl λz m=>?_).up,(eL (b:=62) (d:=3) 100 hl λz m=>?_).up⟩
 . obtain⟨h1,h2,h3⟩:=h z m;exact dM 0 (cv (by omega) (by omega)) (dM 0 h2 (rq 0))
 . obtain⟨h1,h2,h3⟩:=h z m;exact dM 2 (cv (by omega) (by omega)) (dM 2 h3 (rq 2))
mutual
theorem gF: ∀ v:PV,AA v=true->v.flat=true
 | .tup xs,h=>by rw[AA] at h;rw[PV.flat];exact t7 xs h
 | .non,_=>rfl
 | .int _,_=>rfl
 | .str _,_=>rfl
theorem t7: ∀ xs:List PV,nc xs=true->PV.bh xs=true
 | [],_=>rfl
 | x::r,h=>by
  rw[nc,Sr] at h;rw[PV.bh,gF x h.1,t7 r h.2];rfl
end
theorem DR:sC [.tup xs,.ty "tuple"] h= .ok (.bl true) h:=rfl
noncomputable def PQ:=(gT 2 (ax (gN 5) (ax (gN 6) bN)))
noncomputable def PL:=(ag (bS (uW (aF (ai "is_tuple_of" (a2 (aa 6) (eI 2))))) kb cD)
  (ag (ak (ai "stepped" (ae (aa 0) (a3 (aa 3) (aa 5) (aa 6)))) (gN 7))
  (ag (ak (eX 7 0) (gN 3))
  (cf (eM aS bD (aa 4) (ae (aw (a2 (eX 6 0) (eX 7 1))) aj))))))
noncomputable def vL(a:List (Nat × PV × PV))(j:Nat):=a.filterMap λz=>if decide ((z.1)=(j:Int))=true then fI z.2.2 else ox
noncomputable def kH(P:Pg)(a:List (Nat × PV × PV)):List PV:=(S6 P.hs.length).map λj=> .tup (vL a j)
theorem DH{P:Pg}(hl:a.length<=100)(h: ∀ z∈a,z.1 < P.hs.length/\Sh 0 0 z.2.1/\Sh 60 2 z.2.2) j:Sh 6100 3 (.tup (vL a j)):=by
 have e:(vL a j).map id=vL a j:=List.map_id _;rw[<- e];refine(eL (b:=60) (d:=2) 100 (Sx (Ym _ _) hl) λv m=>?_).up;obtain⟨z,mz,ez⟩:=Xk.mp m;split at ez
 . cases ez;exact(h z mz).2.2
 . nomatch ez
theorem Jd(ok:P.Ok)(hl:a.length<=100)(h: ∀ z∈a,z.1 < P.hs.length/\Sh 0 0 z.2.1/\Sh 60 2 z.2.2):Sh 25000 4 (.tup (kH P a)):=by
 have hm:=ok.many;exact(eL 4 (by rw[U4];omega) λj _=>DH hl h j).up
section
variable{pg:Tb}(T:bH pg)
include T
theorem qY k h xs n:run pg (k+1) "is_tuple_of" [.tup xs,.int n] h= .ok (.bl (decide ((xs.length)=n))) h:=by
 rw[run_eq T.sE rfl];simp? [eR,kL,DR]
theorem yo k h (ok:P.Ok) (W:eK P N S) (N9:N<=60) (st:zv P S j g l S1) p:run pg (k+14) "stepped" [P.v,az S,p,bz (j,g,l)] h= .ok (.tup [az S1,l]) h:=by
 obtain⟨x,s,c,r,ex,es,ec,er,hw,hg,rfl,rfl⟩:=st.at_;have ge:=aa6 T k h ok W N9 ex es ec er hw hg;rw[run_eq T.BI rfl];simp? [kq,s9,bz,eO,ge]
theorem BJ k (h:PH) (ok:P.Ok) xs0 e1 e2 (w:Wk P S a S2): ∀{N},eK P N S->N+a.length<=60-> ∀ ts i e5 e6 e7,ts.length+a.length<=1000 ->
  ∃ f5 f6 f7 ,bK ⟨ox,xs0⟩ (aW PQ PL (run pg (k+14))) (((a.map bz).zipIdx i).map λq=>PV.tup [.int (q.2),q.1]) [fI P.v,e1,e2,fI (az S),fI (.ref h.length),e5,e6,e7] (h++[.lst ts])= .ok (.nx [fI P.v,e1,e2,fI (az S2),fI (.ref h.length),f5,f6,f7]) (h++[.lst (ts++a.map cJ)]):=by
 induction w with
 | nil S=>intro N _ _ ts i e5 e6 e7 _;exact⟨e5,e6,e7,by rw[SF,SF,SA];exact jy⟩
 | @cons S S1 S2 j g l r st t ih =>
  intro N W hN ts i e5 e6 e7 hl
  rw[Sb] at hN hl
  have se:=yo T k (h++[.lst ts]) ok W (by omega) st (.int (i))
  have it:run pg (k+14) "is_tuple_of" [.tup [eO j,g],.int 2] (h++[.lst ts])= .ok (.bl true) (h++[.lst ts]):=by
   have q:=qY T (k+13) (h++[.lst ts]) [eO j,g] 2;exact q
  have hz:ts.length < 16777216:=by omega
  obtain⟨f5,f6,f7,i1⟩:=ih (st.ok ok W) (by omega) (ts++[cJ _]) _ _ _ _ (by simp;omega)
  refine⟨f5,f6,f7,?_⟩
  have stp:aW PQ PL (run pg (k+14)) (.tup [.int (i),bz (j,g,l)]) [fI P.v,e1,e2,fI (az S),fI (.ref h.length),e5,e6,e7] (h++[.lst ts])= .ok (.nx [fI P.v,e1,e2,fI (az S1),fI (.ref h.length),fI (.int i),fI (bz (j,g,l)),fI (.tup [az S1,l])]) (h++[.lst (ts++[cJ (j,g,l)])]):=by
   unfold bz cJ at *;simp? [PQ,PL,it,se,pA hz]
  rw[R9,EM,R9,fN,stp,cK,bL,i1,R7]
  rfl
theorem iQ k h (ok:P.Ok) (W:eK P N S) (hN:N+a.length<=60) (w:Wk P S a S2):run pg (k+15) "walked" [P.v,az S,.tup (a.map bz)] h= .ok (.tup [az S2,.tup (a.map cJ)]) h:=by
 obtain⟨f5,f6,f7,lp⟩:=BJ T k h ok (((a.map bz).zipIdx 0).map λq=>PV.tup [.int (q.2),q.1]) (fI (az S)) (fI (.tup (a.map bz))) w W hN [] 0 ox ox ox (by simp;omega);have z: ¬ (60) < ((a.map bz).length:Int):=by grind
 have sh:=w.sh ok (by omega) W;have fl:PV.flat (.tup [az S2,.tup (a.map cJ)])=true:=by
  have f1:=gF _ (D8 ok (by omega) (w.ok ok W)).ok;have f2:=gF _ (EN ok (by omega) sh).2.ok;rw[PV.flat,PV.bh,PV.bh,f1,f2];rfl
 unfold PQ PL at lp;rw[run_eq T.DO rfl];simp? [m8,vY,DR,z,G9,Fj,lp];exact bj fl
theorem w9 k h {P:Pg} (hl:a.length<=100) (sh: ∀ z∈a,z.1 < P.hs.length/\Sh 0 0 z.2.1/\Sh 60 2 z.2.2) (j:Nat):run pg (k+1) "looks_of" [.tup (a.map cJ),.int j] h= .ok (.tup (vL a j)) h:=by
 have lc:dU ⟨ox,a.map cJ⟩ (aM 2 (gT 2 (ax (gN 2) (ax (gN 3) bN))) (aF (ao eE (aa 2) (aa 1))) (aa 3) (run pg k) [fI (.tup (a.map cJ)),fI (.int j)]) (a.map cJ) [] h= .ok (vL a j) h:=by
  refine(cM rfl a [] (λz m=>?_) (by simp;omega)).trans (by rfl);by_cases c:(z.1)=(j:Int)
  . simp? [cJ,eO,c]
  . simp? [cJ,eO,c]
 have fl:=gF _ (DH hl sh j).ok;rw[run_eq T.yz rfl];simp? [i6,rM,lc];exact bj fl
theorem m6 k h (ok:P.Ok) (W:eK P N S) (hN:N+a.length<=60) (w:Wk P S a S2):run pg (k+16) "tables_of" [P.v,az S,.tup (a.map bz)] h= .ok (.tup (kH P a)) h:=by
 have hm:=ok.many;have we:=iQ T k h ok W hN w;have sh:=w.sh ok (by omega) W;have ho:=xZ T (k+14) h P ok;have lc:dU ⟨fI h.length,aJ 0 P.hs.length⟩ (aM 1 (gN 4) aK (ai "looks_of" (a2 (aa 3) (aa 4))) (run pg (k+15)) [fI P.v,fI (az S),fI (.tup (a.map bz)),fI (.tup (a.map cJ))]) (aJ 0 P.hs.length) [] (h++[.lst (aJ 0 P.hs.length)])= .ok (kH P a) (h++[.lst (aJ 0 P.hs.length)]):=by
  refine(cM (bE aT) _ [] (λi m=>?_) (by simp;omega)).trans (by rw[Wx];rfl);have iz:(0:Int)+(i:Int)=(i:Int):=Vr _;have lo:=w9 T (k+14) (h++[.lst (aJ 0 P.hs.length)]) (by omega) sh i;simp? [iz,lo]
 have fl:=gF _ (Jd ok (by omega) sh).ok;rw[run_eq T.xK rfl];simp? [hV,oQ,we,ho,lc];exact bj fl
end
noncomputable def dm(x:Str × List Rw):=bq x.2 200 ⟨0,[],[]⟩
noncomputable def PF(bs:List (Str × Int))(s1 s2 s3:List Str)(hs:List (Str × List Rw)):PV:= .tup [.tup (hs.map λ_=>PV.int 0),.tup (hs.map λx=>aO (dm x)),.tup (bs.map λb=>PV.tup [.int b.2,.non]),.tup (s1.map λ_=>PV.tup [.non,.non]),.tup (s2.map λ_=>PV.tup [.int 0,.int 0,.tup []]),.tup (s3.map λ_=>PV.int 0)]
theorem tP{α :Type}(hs:List α) f (d:PV):(S6 hs.length).filterMap (λi=>fI ((hs[i]?.map f).getD d))=hs.map f:=by
 rw[Wx];refine List.ext_getElem (by simp) λi h1 h2=>?_;simp at h1 h2 ⊢;rw[R6 (by omega)];rfl
theorem gu{α :Type} f (hf: ∀ x,(f x).flat=true): ∀ l:List α,PV.bh (l.map f)=true
 | []=>rfl
 | x::r=>by rw[R9,PV.bh,hf,gu f hf r];rfl
theorem Dz bs s1 s2 s3 hs:(PF bs s1 s2 s3 hs).flat=true:=by
 unfold PF;simp only[PV.flat,PV.bh,Va,Sr];exact⟨gu _ (λ_=>rfl) _,gu _ (λx=>kY _) _,gu _ (λ_=>rfl) _,gu _ (λ_=>rfl) _,gu _ (λ_=>rfl) _,gu _ (λ_=>rfl) _⟩
noncomputable def aN(P:Pg):Wd:=⟨P.hs.map λ_=>0,P.hs.map dm,P.bs.map λz=>(z.2,.non),P.s1.map λ_=>(ox,.non),P.s2.map λ_=>(0,0,[]),P.s3.map λ_=>0⟩
theorem BA P:az (aN P)=PF P.bs P.s1 P.s2 P.s3 P.hs:=by
 unfold az aN PF;simp only[Tf];rfl
theorem GW(ok:P.Ok):eK P 0 (aN P) where
 lc:=xn ..
 ls:=xn ..
 l0:=xn ..
 l1:=xn ..
 l2:=xn ..
 l3:=xn ..
 ct c m:=by obtain⟨_,_,rfl⟩:=SS.mp m;decide
 bx b m:=by obtain⟨z,mz,rfl⟩:=SS.mp m;exact⟨(ok.bx.2 z mz).2,.inl rfl⟩
 lk l m:=by obtain⟨_,_,rfl⟩:=SS.mp m;exact⟨λi e=>(by cases e),.inl rfl⟩
 ln n m:=by obtain⟨_,_,rfl⟩:=SS.mp m;exact⟨by decide,by decide,by decide,λv mv=>(by cases mv)⟩
 dr d m:=by obtain⟨_,_,rfl⟩:=SS.mp m;decide
 se j x s e1 e2:=by
  have e2':(P.hs.map dm)[j]?=fI s:=e2;rw[Sq,e1] at e2';cases e2';obtain⟨l1,l2,l3⟩:=fM (ok.hd x (Se e1));have h0:(dm x).held=[]:=cy 200 _;exact⟨qR l3 200 _ ⟨.nil,SX _⟩,by simp_all,by rw[h0];exact Si _,jt 200 _,by simp_all,by simp_all⟩
section
variable{pg:Tb}(T:bH pg)
include T
theorem qn k h {P} (ok:P.Ok):run pg (k+12) "first_stand" [P.v] h= .ok (az (aN P)) h:=by
 rw[BA];obtain⟨bs,s1,s2,s3,hs⟩:=P;obtain⟨p,pa⟩: ∃ p,p=Pg.v ⟨bs,s1,s2,s3,hs⟩:=⟨_,rfl⟩
 rw[<- pa];show _=RV.ok _ h;have hm:1<=hs.length/\hs.length<=4:=ok.many;have ho:run pg (k+11) "hands_of" [p] h= .ok (.ref h.length) (h++[.lst (aJ 0 hs.length)]):=by
  rw[run_eq T.rW rfl,pa];unfold Pg.v;have tn:Xf _=hs.length:=SQ _;simp? [gJ,l7,Jh,Dc,xn,tn];exact aY rfl
 have lc: ∀(H:PH)(e:ME)(f:Nat->PV),H[h.length]?=fI _->(∀ i < hs.length,e (run pg (k+11)) [fI p,fI (.ref h.length),fI (.int (0+(i:Int)))] H= .ok (f i) H)->dU ⟨fI _,aJ 0 hs.length⟩ (aM 1 (gN 2) aK e (run pg (k+11)) [fI p,fI (.ref h.length)]) (aJ 0 _) [] H= .ok ((S6 _).filterMap λi=>fI (f i)) H:=λH e f hH he=>by
  refine(cM (bE hH) (S6 hs.length) [] (λi m=>?_) (by simp;omega)).trans (by rfl);have:=he i (UO.mp m);simp? [this]
 have lt: ∀{α :Type}(l:List α)(g f: α ->PV)(e:ME)(H:PH),l.length<=1000->(∀ x∈l,e (run pg (k+11)) [fI p,fI (.ref h.length),fI (g x)] H= .ok (f x) H)->dU ⟨ox,l.map g⟩ (aM 1 (gN 2) aK e (run pg (k+11)) [fI p,fI (.ref h.length)]) (l.map g) [] H= .ok (l.map f) H:=λl g f e H hl he=>by
  refine(cM rfl l [] (f:=λx=>fI (f x)) (λx m=>?_) (by simp;omega)).trans (by simp_all);have:=he x m;simp? [this]
 let A:=hs.map λ_=>PV.int 0
 let B:=hs.map λx=>aO (dm x)
 have n0: ∀ Y:PH,(h++ .lst _::Y)[h.length]?=fI (.lst (aJ 0 hs.length)):=λY=>aT;have c1: ∀ Y:PH,dU _ _ _ [] _= .ok A _:=λY=>by
  rw[lc _ (eI 0) (λi=>((hs[i]?.map λ_=>PV.int 0).getD (.int 0))) (n0 Y) (λi hi=>by rw[Js,R6 hi];rfl),tP]
 have c2: ∀ Y:PH,dU _ _ _ [] _= .ok B _:=λY=>by
  rw[lc _ (ai "first_seat" (a2 (aa 0) (aa 2))) (λi=>((hs[i]?.map λx=>aO (dm x)).getD .non)) (n0 Y) (λi hi=>?_),tP];have e:=R6 hi;obtain⟨_,L,l1,_,l3⟩:=ok.hd _ (Uw hi);have fs:run pg (k+11) "first_seat" [p,.int i] (h++ .lst (aJ 0 hs.length)::Y)=_:=sW T k _ (by omega) (by rw[pa];exact Pg.hand _ e) (λr m=>(l3 r m).1);rw[e];have iz:(0:Int)+(i:Int)=(i:Int):=Vr _;simp? [iz,fs];rfl
 have b20:bs.length<=20:=ok.bx.1;have n1:s1.length<=20:=ok.nm.1.1;have n2:s2.length<=20:=ok.nm.2.1.1;have n3:s3.length<=20:=ok.nm.2.2.1;have c3: ∀ H:PH,dU ⟨ox,bs.map eW⟩ (aM 1 (gN 2) aK (aw (a2 (eX 2 1) (eC .non))) (run pg (k+11)) [fI p,fI (.ref h.length)]) (bs.map eW) [] H= .ok (bs.map λb=>PV.tup [.int b.2,.non]) H:=λH=>lt bs eW _ _ H (by omega) λx _=>by rfl
 have c4: ∀ H:PH,dU ⟨ox,s1.map PV.str⟩ (aM 1 (gN 2) aK (aw (a2 (eC .non) (eC .non))) (run pg (k+11)) [fI p,fI (.ref h.length)]) (s1.map PV.str) [] H= .ok (s1.map λ_=>PV.tup [.non,.non]) H:=λH=>lt s1 PV.str _ _ H (by omega) λx _=>by rfl
 have c5: ∀ H:PH,dU ⟨ox,s2.map PV.str⟩ (aM 1 (gN 2) aK (aw (a3 (eI 0) (eI 0) (aw aj))) (run pg (k+11)) [fI p,fI (.ref h.length)]) (s2.map PV.str) [] H= .ok (s2.map λ_=>PV.tup [.int 0,.int 0,.tup []]) H:=λH=>lt s2 PV.str _ _ H (by omega) λx _=>by rfl
 have c6: ∀ H:PH,dU ⟨ox,s3.map PV.str⟩ (aM 1 (gN 2) aK (eI 0) (run pg (k+11)) [fI p,fI (.ref h.length)]) (s3.map PV.str) [] H= .ok (s3.map λ_=>PV.int 0) H:=λH=>lt s3 PV.str _ _ H (by omega) λx _=>rfl;have i0: ∀ H,aE p (.int 0) H= .ok (.tup (bs.map eW)) H:=λH=>by rw[pa];exact kI
 have i1: ∀ H,aE p (.int 1) H= .ok (.tup (s1.map PV.str)) H:=λH=>by rw[pa];exact ig
 have i2: ∀ H,aE p (.int 2) H= .ok (.tup (s2.map PV.str)) H:=λH=>by rw[pa];exact xO
 have i3: ∀ H,aE p (.int 3) H= .ok (.tup (s3.map PV.str)) H:=λH=>by rw[pa];exact Cd
 rw[run_eq T.sI rfl];simp? [eZ,kM,ho,c1,c2,c3,c4,c5,c6,i0,i1,i2,i3];exact bj (Dz ..)
end
structure FI(dn:List (Str × List Rw))(R:PH):Prop where
 len:R.length=4+3*dn.length
 at_: ∀(j:Nat)(x:Str × List Rw),dn[j]?=fI x-> ∃ D:Pk,R[4+3*j]?=fI (.bu (gA D))/\R[6+3*j]?=fI (.lst [])/\R[5+3*j]?=fI (.lst [])/\sR (JU x) D/\ ∀ y,fP D y=fP (dm x).ps y
theorem FI.more(h:FI dn R)(hD:sR (JU x) D)(hf: ∀ y,fP D y=fP (dm x).ps y):FI (dn++[x]) (R++[.bu (gA D),.lst [],.lst []]):=by
 have l:=h.len;refine⟨by simp only[Sj,Sb,S4];omega,λj y e=>?_⟩;by_cases z:j < dn.length
 . rw[TQ z] at e;obtain⟨D0,h1,h2,h5,h3⟩:=h.at_ j y e;exact⟨D0,(aq (aC h1)).trans h1,(aq (aC h2)).trans h2,(aq (aC h5)).trans h5,h3⟩
 . rw[S8 (by omega)] at e;have j0:j=dn.length:=by
    have:=(RY.mp e).1;simp at this;omega
   subst j0;rw[Nat.sub_self] at e;cases e;refine⟨D,?_,?_,?_,hD,hf⟩
   . simp_all
   . rw[show 6+3*dn.length=R.length+2 by omega,aP];rfl
   . rw[show 5+3*dn.length=R.length+1 by omega,aP];rfl
theorem LS n ss s:sL n (ss++[s])=sL n ss++[FA n ss.length s]:=by
 unfold sL;simp
noncomputable def fB:=(ag (ak uz (gN 3)) (ag (ak (ai "_law_rest" (ae (eX 2 1) (a3 (eI 0) (aa 3) (bA aj)))) (gN 4)) (ag (cf (eM aS bD (ao aE (aa 1) (eS "counts")) (a1 (eI 0)))) (cf (eM aS bD (ao aE (aa 1) (eS "seats")) (ae (aw (a3 (aa 4) (aa 3) (bA aj))) aj))))))
section
variable{pg:Tb}(T:bH pg)
include T
theorem zA k h xs0 e0: ∀ hs dn R e2 e3 e4,dn.length+hs.length<=1000->(∀ x∈hs,mC s0 s1 s2 s3 x)->FI dn R ->
  ∃(X:PH)(f2 f3 f4:Option PV),FI (dn++hs) (R++X) /\
   bK ⟨ox,xs0⟩ (aW (gN 2) fB (run pg (k+10))) (hs.map bR) [e0,fI (.ref h.length),e2,e3,e4] (h++ .bu (tr h.length):: .lst (dn.map λ_=>PV.int 0):: .lst (sL h.length (dn.map dm))::R)= .ok (.nx [e0,fI (.ref h.length),f2,f3,f4]) (h++ .bu (tr h.length):: .lst ((dn++hs).map λ_=>PV.int 0):: .lst (sL h.length ((dn++hs).map dm))::(R++X)):=by
 obtain⟨vc,vs,_⟩:=d7 h.length;intro hs
 induction hs with
 | nil=>intro dn R e2 e3 e4 _ _ f;exact⟨[],e2,e3,e4,by simpa using f,by simp only[SF,SA];exact jy⟩
 | cons x hs ih =>
  intro dn R e2 e3 e4 hc hH f
  rw[Sb] at hc
  have lR:=f.len
  obtain⟨l1,l2,l3⟩:=fM (hH x So)
  let aX:=dn.map λ_=>PV.int 0
  let ck:=sL h.length (dn.map dm)
  let W:=h++ .bu (tr h.length):: .lst aX:: .lst ck::R
  have lW:W.length=h.length+(R.length+1+1+1):=by simp[W]
  obtain⟨D,a1,a2,a3⟩:=Ah T k (W++[.bu [],.lst []]) (l:=W.length+1) (hl:=[]) (L:=JU x) (rs:=x.2) (t:=⟨0,[],[]⟩) (D:=[]) (by omega) (by omega) l3 aT (by rw[aP];rfl) (λy=>Iff.rfl) ⟨.nil,SX _⟩ ⟨.nil,λq m=>by cases m⟩ (λ_=>rfl)
  rw[iG] at a3
  let v:PV:= .tup [.int (dm x).row,.ref (h.length+(R.length+1+1+1)),.ref (h.length+(R.length+(0+1+1)+1+1+1))]
  obtain⟨X,f2,f3,f4,i1,i2⟩:=ih (dn++[x]) (R++[.bu (gA D),.lst [],.lst []]) (fI (bR x)) (fI (.ref (h.length+(R.length+1+1+1)))) (fI (.int (dm x).row)) (by simp only[Sj,Sb,S4];omega) (λz m=>hH z (Sk _ m)) (f.more a1 a2)
  refine⟨[.bu (gA D),.lst [],.lst []]++X,f2,f3,f4,?_,?_⟩
  . rw[<- R7];rw[R7 dn] at i1;exact i1
  have hz1:aX.length < 16777216:=by simp only[aX,xn];omega
  have hz2:ck.length < 16777216:=by simp only[ck];rw[zQ,xn];omega
  have h1: ∀ H,aE (bR x) (.int 1) H= .ok (bZ x.2) H:=λH=>ig
  have st:aW (gN 2) fB (run pg (k+10)) (bR x) [e0,fI (.ref h.length),e2,e3,e4] W= .ok (.nx [e0,fI (.ref h.length),fI (bR x),fI (.ref (h.length+(R.length+1+1+1))),fI (.int (dm x).row)]) (h++ .bu (tr h.length):: .lst (aX++[.int 0]):: .lst (ck++[v])::(R++[.bu (gA D),.lst [],.lst []])):=by
   have a3':run pg (k+10) "_law_rest" [bZ x.2,.int 0,.ref (h.length+(R.length+1+1+1)),.ref (h.length+(R.length+(0+1)+1+1+1))] (h++ .bu (tr h.length):: .lst aX:: .lst ck::(R++[.bu [],.lst []]))= .ok (.int (dm x).row) (h++ .bu (tr h.length):: .lst aX:: .lst ck::(R++[.bu (gA D),.lst []])):=by
    rw[lW] at a3;simp only[W,R7,TA,Xg] at a3;exact a3
   clear_value aX ck
   simp? [fB,W,v,h1,a3',vc,vs,pA hz1,pA hz2]
  have ec:(dn++[x]).map (λ_=>PV.int 0)=aX++[.int 0]:=by rw[SH];rfl
  have es:sL h.length ((dn++[x]).map dm)=ck++[v]:=by
   rw[SH,R9,SF,LS,xn];show ck++[_]=ck++[v];unfold FA;rw[show h.length+7+3*dn.length=h.length+(R.length+1+1+1) by omega,show h.length+9+3*dn.length=h.length+(R.length+(0+1+1)+1+1+1) by omega]
  rw[ec,es] at i2
  rw[R9,fN]
  rw[st,cK,bL,i2]
  simp
end
noncomputable def lB(n:Nat):List (Key × PV):=[(.inr "counts",.ref (n+1)),(.inr "seats",.ref (n+2)),(.inr "doors",.ref (n+3))]
theorem JQ n:cE [] (lB n)=lB n/\jm (lB n) (.inr "boxes") (.ref (n+4))=lB n++[(.inr "boxes",.ref (n+4))]/\jm (lB n++[(.inr "boxes",.ref (n+4))]) (.inr "locks") (.ref (n+5))=lB n++[(.inr "boxes",.ref (n+4)),(.inr "locks",.ref (n+5))]/\jm (lB n++[(.inr "boxes",.ref (n+4)),(.inr "locks",.ref (n+5))]) (.inr "lanes") (.ref (n+6))=tr n:=by
 refine⟨?_,?_,?_,?_⟩<;>simp[lB,tr,cE,jm,aD]
section
variable{pg:Tb}(T:bH pg)
include T
theorem uK k h (ok:P.Ok) :
  ∃ X ,X.length=7+3*P.hs.length/\Rep (h++X) h.length P (aN P) (aN P).ck/\run pg (k+11) "_law_first" [P.v] h= .ok (.ref h.length) (h++X):=by
 have b20:=ok.bx.1;have n1:=ok.nm.1.1;have n2:=ok.nm.2.1.1;have n3:=ok.nm.2.2.1;have hm:=ok.many
 let n:=h.length
 let A3:PO:= .lst (P.s3.map λ_=>PV.int 0)
 let A0:PO:= .lst (P.bs.map λb=>PV.tup [.int b.2,.non])
 let A1:PO:= .lst (P.s1.map λ_=>PV.tup [.non,.non])
 let A2:PO:= .lst (P.s2.map λ_=>PV.tup [.int 0,.int 0,.tup []])
 obtain⟨X,f2,f3,f4,i1,i2⟩:=zA T k h (P.hs.map bR) (fI P.v) P.hs [] [A3,A0,A1,A2] ox ox ox (by simp;omega) ok.hd ⟨rfl,λj x e=>by cases e⟩;rw[SG] at i1;have lX:=i1.len
 let Y:= .bu (tr n):: .lst (P.hs.map λ_=>PV.int 0):: .lst (sL n (P.hs.map dm))::([A3,A0,A1,A2]++X)
 refine⟨Y,by simp only[Y,Sb];omega,⟨λi hi=>?_,λj x s ex es=>?_,λj hj=>?_⟩,?_⟩
 . rw[aP];rcases NK hi with rfl | rfl | rfl | rfl | rfl | rfl | rfl
   . rfl
   . show fI (PO.lst _)=fI (.lst ((P.hs.map λ_=>(0)).map PV.int));rw[Tf];rfl
   . rfl
   . show fI A3=fI (.lst ((P.s3.map λ_=>(0)).map PV.int));rw[Tf];rfl
   . show fI A0=fI (.lst ((P.bs.map λz=>(z.2,PV.non)).map jA));rw[Tf];rfl
   . show fI A1=fI (.lst ((P.s1.map λ_=>((ox),PV.non)).map gQ));rw[Tf];rfl
   . show fI A2=fI (.lst ((P.s2.map λ_=>((0),(0),([]))).map gL));rw[Tf];rfl
 . have es':(P.hs.map dm)[j]?=fI s:=es;rw[Sq,ex] at es';cases es';obtain⟨D,h1,h2,_,h3,h4⟩:=i1.at_ j x ex;have h0:(dm x).held=[]:=cy 200 ⟨0,[],[]⟩;refine⟨D,[],?_,?_,h3,h4,.nil,by rw[h0];exact λy=>Iff.rfl⟩
   . rw[show h.length+7+3*j=h.length+(4+3*j+1+1+1) by omega,aP];exact h1
   . rw[show h.length+9+3*j=h.length+(6+3*j+1+1+1) by omega,aP];exact h2
 . obtain⟨D,_,_,h5,_⟩:=i1.at_ j _ (R6 hj);rw[show h.length+8+3*j=h.length+(5+3*j+1+1+1) by omega,aP];exact h5
 obtain⟨p0,p1,p2,p3⟩:=JQ n;have c3: ∀(E:ay)(H:PH),dU ⟨ox,P.s3.map PV.str⟩ (aM 1 (gN 5) aK (eI 0) (run pg (k+10)) E) (P.s3.map PV.str) [] H= .ok (P.s3.map λ_=>PV.int 0) H:=λE H=>Ec (by omega) λx _=>rfl;have c0: ∀(e1:Option PV)(H:PH),dU ⟨ox,P.bs.map eW⟩ (aM 1 (gN 5) aK (aw (a2 (eX 5 1) (eC .non))) (run pg (k+10)) [fI P.v,e1,ox,ox,ox]) (P.bs.map eW) [] H= .ok (P.bs.map λb=>PV.tup [.int b.2,.non]) H:=λe1 H=>Ec (by omega) λx _=>by simp? [eW]
 have c1: ∀(e1:Option PV)(H:PH),dU ⟨ox,P.s1.map PV.str⟩ (aM 1 (gN 5) aK (aw (a2 (eC .non) (eC .non))) (run pg (k+10)) [fI P.v,e1,ox,ox,ox]) (P.s1.map PV.str) [] H= .ok (P.s1.map λ_=>PV.tup [.non,.non]) H:=λe1 H=>Ec (by omega) λx _=>by simp? [SF]
 have c2: ∀(e1:Option PV)(H:PH),dU ⟨ox,P.s2.map PV.str⟩ (aM 1 (gN 5) aK (aw (a3 (eI 0) (eI 0) (aw aj))) (run pg (k+10)) [fI P.v,e1,ox,ox,ox]) (P.s2.map PV.str) [] H= .ok (P.s2.map λ_=>PV.tup [.int 0,.int 0,.tup []]) H:=λe1 H=>Ec (by omega) λx _=>by simp? [SF]
 have i0: ∀ H,aE P.v (.int 0) H= .ok (.tup (P.bs.map eW)) H:=λH=>kI;have j1: ∀ H,aE P.v (.int 1) H= .ok (.tup (P.s1.map PV.str)) H:=λH=>ig;have j2: ∀ H,aE P.v (.int 2) H= .ok (.tup (P.s2.map PV.str)) H:=λH=>xO;have j3: ∀ H,aE P.v (.int 3) H= .ok (.tup (P.s3.map PV.str)) H:=λH=>Cd;have j4: ∀ H,aE P.v (.int 4) H= .ok (.tup (P.hs.map bR)) H:=λH=>uk;have dk:Nv h.length [((.inr "counts"),PV.ref (h.length+(0+1))),(.inr "seats",.ref (h.length+(0+1+1))),(.inr "doors",.ref (h.length+(0+1+1+1)))] (h++[.bu [],.lst [],.lst [],A3])= .ok (.ref h.length) (h++[.bu (lB n),.lst [],.lst [],A3]):=by
  rw[EF aT (by simp),iG];show RV.ok (PV.ref h.length) (h++[.bu (cE [] (lB n)),.lst [],.lst [],A3])=_;rw[p0]
 have l3:(lB n).length < 16777216:=by simp[lB]
 have l4:(lB n++[((.inr "boxes" :Key),PV.ref (n+4))]).length < 16777216:=by simp[lB]
 have l5:(lB n++[((.inr "boxes" :Key),PV.ref (n+4)),(.inr "locks",.ref (n+5))]).length < 16777216:=by simp[lB]
 have A:jx (run pg (k+10)) [fI P.v,ox,ox,ox,ox] h= .ok (.rt (.ref h.length)) (h++Y):=by
  show ag _ (ag _ (ag _ (ag _ (ag _ _)))) _ _ _=_;refine(aR (e1:=[fI P.v,fI (.ref h.length),ox,ox,ox]) (h1:=h++[.bu (lB n),.lst [],.lst [],A3]) ?_).trans ?_
  . simp? [nF,qe,ni,qv,rh,qM,j3,c3,A3,dk]
  refine(aR (e1:=[fI P.v,fI (.ref h.length),ox,ox,ox]) (h1:=h++[.bu (lB n++[(.inr "boxes",.ref (n+4))]),.lst [],.lst [],A3,A0]) ?_).trans ?_
  . have q:jm (lB n) (.inr "boxes") (.ref (h.length+(0+1+1+1+1)))=_:=p1;simp? [A0,i0,c0,mP l3,q]
  refine(aR (e1:=[fI P.v,fI (.ref h.length),ox,ox,ox]) (h1:=h++[.bu (lB n++[(.inr "boxes",.ref (n+4)),(.inr "locks",.ref (n+5))]),.lst [],.lst [],A3,A0,A1]) ?_).trans ?_
  . have q:jm (lB n++[(.inr "boxes",.ref (n+4))]) (.inr "locks") (.ref (h.length+(0+1+1+1+1+1)))=_:=p2;simp? [A1,j1,c1,mP l4,q]
  refine(aR (e1:=[fI P.v,fI (.ref h.length),ox,ox,ox]) (h1:=h++[.bu (tr n),.lst [],.lst [],A3,A0,A1,A2]) ?_).trans ?_
  . have q:jm (lB n++[(.inr "boxes",.ref (n+4)),(.inr "locks",.ref (n+5))]) (.inr "lanes") (.ref (h.length+(0+1+1+1+1+1+1)))=_:=p3;simp? [A2,j2,c2,mP l5,q]
  . unfold fB at i2;simp only[SG,TA,SF] at i2;have sn:sL h.length []=[]:=rfl;rw[sn] at i2;simp? [j4,i2,n,Y]
 rw[run_eq T.uT rfl];show fin _ (jx (run pg (k+10)) [fI P.v,ox,ox,ox,ox] h)=_;rw[A,lM];exact aY rfl
end
theorem tR{H:PH}(h0:H[0]?=fI a)(h1:H[1]?=fI b): ∃ G,H=a::b::G:=by
 match H,h0,h1 with
 | x::y::G,h0,h1=>cases h0;cases h1;exact⟨G,rfl⟩
theorem tX: ∀{h h'},h.length<=h'.length->(∀(i:Nat) o o',h[i]?=fI o->h'[i]?=fI o'->o=o'\/(o'.hU n=true/\o.dq=o'.dq))->bX n h h'=true
 | [],_,_,_=>rfl
 | o::h,[],l,_=>by simp at l
 | o::h,o'::h',l,f=>by
  rw[bX,tX (by simp_all) λi a b e1 e2=>f (i+1) a b e1 e2];rcases f 0 o o' rfl rfl with e | ⟨e1,e2⟩
  . simp[e]
  . simp_all
theorem v8(fl:v.flat=true)(l:h.length<=h'.length)(f: ∀(i:Nat) (o o'),h[i]?=fI o->h'[i]?=fI o'->o=o'\/(o'.hU h.length=true/\o.dq=o'.dq)):_P.settle h v h'= .ok v (h'.take h.length):=by
 unfold _P.settle;rw[if_pos (by rw[fl,tX l f];rfl)]
theorem ki{α :Type}{f}{l:List α}(h: ∀ x∈l,(f x).flat=true):(PO.lst (l.map f)).hU n=true:=gj n _ (iP h)
theorem Rep.drop(R:Rep H n P S S.ck)(R':Rep H' n P S' S'.ck)(W:eK P N S)(W':eK P N' S')(hm:n+7+3*P.hs.length<=m)(h1:n<=i)(h2:i < n+7+3*P.hs.length)(e:H[i]?=fI o)(e':H'[i]?=fI o'):o=o'\/(o'.hU m=true/\o.dq=o'.dq):=by
 by_cases z:i < n+7
 . obtain⟨k,rfl⟩: ∃ k,i=n+k:=⟨i - n,by omega⟩
   have hk:k < 7:=by omega
   rw[R.c k hk] at e;rw[R'.c k hk] at e';cases e;cases e';rcases NK hk with rfl | rfl | rfl | rfl | rfl | rfl | rfl
   . exact .inl rfl
   . exact .inr ⟨ki λ_ _=>rfl,rfl⟩
   . refine .inr ⟨?_,rfl⟩;have: ∀(vs:List PV),(∀ v∈vs,v.hU m=true)->PV.gp m vs=true:=λvs=>by
      induction vs with
      | nil=>exact λ_=>rfl
      | cons v vs ih=>intro h;rw[PV.gp,h v So,ih λz mz=>h z (Sk _ mz)];rfl
     refine this _ λv mv=>?_;obtain⟨j,hj,rfl⟩:=ZT mv;have hj':j < S'.ck.length:=by rw[<- zQ n];exact hj
     have ej:=CS (n:=n) (R6 hj');rw[R6 hj] at ej;rw[SY ej];have:=W'.ls;simp only[FA,PV.hU,PV.gp,Va,UL,Sr,decide_eq_true_eq];omega
   . exact .inr ⟨ki λ_ _=>rfl,rfl⟩
   . exact .inr ⟨ki λb mb=>by simp only[jA,PV.flat,PV.bh,(W'.bx b mb).2.flat,Va],rfl⟩
   . exact .inr ⟨ki λb mb=>by
      have:=(W'.lk b mb).2.flat;obtain⟨a,b⟩:=b;cases a<;>simp only[gQ,IL,PV.flat,PV.bh,this,Va],rfl⟩
   . exact .inr ⟨ki λb mb=>by simp only[gL,PV.flat,PV.bh,Va];exact iP λ_ _=>rfl,rfl⟩
 . obtain⟨j,k,hk,rfl⟩: ∃ j k,k < 3/\i=n+7+3*j+k:=⟨(i - n - 7) / 3,(i - n - 7) % 3,by omega,by omega⟩
   have hj:j < P.hs.length:=by omega
   obtain⟨D,hl,d1,d2,_⟩:=R.p j _ _ (R6 hj) (R6 (by rw[W.ls];exact hj));obtain⟨D',hl',d1',d2',_⟩:=R'.p j _ _ (R6 hj) (R6 (by rw[W'.ls];exact hj));rcases QY hk with rfl | rfl | rfl
   . rw[RC,d1] at e;rw[RC,d1'] at e';cases e;cases e';exact .inr ⟨DZ _ _,rfl⟩
   . rw[show n+7+3*j+1=n+8+3*j by omega] at e e';rw[R.g j hj] at e;rw[R'.g j hj] at e';cases e;cases e';exact .inl rfl
   . rw[show n+7+3*j+2=n+9+3*j by omega] at e e';rw[d2] at e;rw[d2'] at e';cases e;cases e';exact .inr ⟨ki λ_ _=>rfl,rfl⟩
structure DI(H:PH)(fr:PO)(n r:Nat)(P:Pg)(q:Int × Int × Int)(S:Wd)(a:List (Nat × PV × PV))(Z:PH):Prop where
 z0:Z[0]?=fI fr
 z1:Z[1]?=fI (bV q)
 R:Rep Z n P S S.ck
 ru:Z[r]?=fI (.lst (a.map bz))
 lo:Z[r+1]?=fI (.lst (a.map cJ))
 off: ∀ i,i < r->i≠1->(i < n\/n+7+3*P.hs.length<=i)->Z[i]?=H[i]?
theorem DI.app(I:DI H fr n r P q S a Z) Y:DI H fr n r P q S a (Z++Y) :=
 ⟨(aq (aC I.z0)).trans I.z0,(aq (aC I.z1)).trans I.z1,I.R.app Y,(aq (aC I.ru)).trans I.ru,(aq (aC I.lo)).trans I.lo,λi h1 h2 h3=>(aq (by have:=aC I.ru;omega)).trans (I.off i h1 h2 h3)⟩
theorem DI.box{G:PH}(n2:2<=n)(nr:n+7+3*P.hs.length<=r)(I:DI H fr n r P q S a (fr::bV q::G)):DI H fr n r P q' S a (fr::bV q'::G):=by
 have off: ∀ i,i≠1->(fr::bV q'::G)[i]?=(fr::bV q::G)[i]?:=λi hi=>by
  match i,hi with
  | 0,_=>rfl
  | k+2,_=>rfl
 exact⟨rfl,rfl,I.R.same λi h1 _=>off i (by omega),by rw[off _ (by omega)];exact I.ru,by rw[off _ (by omega)];exact I.lo,λi h1 h2 h3=>by rw[off i h2];exact I.off i h1 h2 h3⟩
noncomputable def Ji:=(iq (aF (ao kR (aa 6) (bA aj))) (aF (ao AQ (eB bG (a1 (aa 4))) (aa 3))))
noncomputable def QE:=(ag (ak (ao aE (aa 6) (ai "_law_take" (ae (aa 1) (ae (eB bG (a1 (aa 6))) aj)))) (gN 7))
  (ag (ak (ai "_law_gift" (ae (aa 1) (ae (ai "_law_row" (a3 (aa 0) (aa 2) (aa 7))) aj))) (gN 8))
  (ag (cf (eM aS bD (aa 4) (ae (aw (a2 (aa 7) (aa 8))) aj)))
  (ag (cf (eM aS bD (aa 5) (ae (aw (ae (aa 7) (ae (ai "_law_go" (ae (aa 0) (a3 (aa 2) (aa 7) (aa 8)))) aj))) aj)))
  (ak (ai "_law_can" (a2 (aa 0) (aa 2))) (gN 6))))))
section
variable{pg:Tb}(T:bH pg)
include T
theorem Ci k (ok:P.Ok) (n2:2<=n) (nr:n+7+3*P.hs.length<=r) (W:eK P N S) (N9:N<=60) (la:a.length<=100) (I:DI H fr n r P q S a Z) (hc:Z[c]?=fI (.lst ((gC P S).map eO))) (rc:r+1 < c) (ne:gC P S≠[]) m e7 e8 :
  ∃(j:Nat)(g l:PV)(S1:Wd)(q':Int × Int × Int)(Z':PH)(c':Nat)(f7 f8:Option PV),zv P S j g l S1/\DI H fr n r P q' S1 (a++[(j,g,l)]) Z'/\Z'[c']?=fI (.lst ((gC P S1).map eO))/\r+1 < c' /\
   QE (run pg (k+20)) [fI P.v,fI (.ref 1),fI (.ref n),fI m,fI (.ref r),fI (.ref (r+1)),fI (.ref c),e7,e8] Z= .ok (.nx [fI P.v,fI (.ref 1),fI (.ref n),fI m,fI (.ref r),fI (.ref (r+1)),fI (.ref c'),f7,f8]) Z':=by
 have hm:=ok.many;have lc0:=ZS.mpr ne;have lc4:(gC P S).length<=4:=by
  unfold gC;exact Sx (VA _ _) (by rw[U4];omega)
 obtain⟨G,rfl⟩:=tR I.z0 I.z1;obtain⟨v,q1,v0,v1,ev⟩:=cC T _ fr q (gC P S).length (by omega) (by omega);obtain⟨vn,rfl⟩:=Tj v0;have vl:vn < (gC P S).length:=by omega
 obtain⟨j,ej⟩: ∃ j,(gC P S)[vn]?=fI j:=⟨_,R6 vl⟩
 have mj:=Uu.mp (Se ej);have hj:=UO.mp mj.1;have hw:c8 P S j= .non:=by simpa using mj.2
 obtain⟨x,s,cc,ex,es,ec,so⟩:=nh W hj;obtain⟨rw_,er⟩: ∃ r,x.2[s.row]?=fI r:=by
  cases e:x.2[s.row]? with
  | some r=>exact⟨r,rfl⟩
  | none =>
   unfold c8 at hw
   rw[dR ex es,e] at hw
   cases hw
 obtain⟨l1,l2,l3⟩:=fM (ok.hd x (Se ex));obtain⟨gf,q2,hg,eg⟩:=xS T _ fr q1 (l3 rw_ (Se er));have I1:DI H fr n r P q1 S a _:=I.box n2 nr;have I2:DI H fr n r P q2 S a _:=I.box n2 nr;obtain⟨K0,hK0⟩: ∃ K,K=fr::bV q::G:=⟨_,rfl⟩
 obtain⟨K1,hK1⟩: ∃ K,K=fr::bV q1::G:=⟨_,rfl⟩
 obtain⟨K2,hK2⟩: ∃ K,K=fr::bV q2::G:=⟨_,rfl⟩
 have ev':run pg (k+20) "_law_take" [.ref 1,.int ((gC P S).length)] K0= .ok (.int (vn)) K1:=by rw[hK0,hK1];exact ev G
 have eg':run pg (k+20) "_law_gift" [.ref 1,bO rw_] K1= .ok gf K2:=by rw[hK1,hK2];exact eg G
 have lK0:K0[c]?=fI (.lst ((gC P S).map eO)):=by rw[hK0];exact hc
 have c1:c≠1:=by omega
 have lK1:K1[c]?=fI (.lst ((gC P S).map eO)):=by
  rw[hK1]
  match c,c1,hc with
  | 0,_,hc=>exact hc
  | c+2,_,hc=>exact hc
 rw[<- hK1] at I1;rw[<- hK2] at I2;have ro:=lC T (k+19) W I1.R.cells hj;rw[dR ex es,er] at ro;have ro':run pg _ _ [P.v,.ref n,eO j] K1= .ok (bO rw_) K1:=ro;have ln:bG [.ref c] K0= .ok (.int ((gC P S).length)) K0:=by rw[qP,lK0,lx,xn]
 have ix1:aE (.ref c) (.int (vn)) K1= .ok (eO j) K1:=by rw[oM,lK1,ph,ba ej];rfl
 let S1:=cz P S j cc x.2 s gf rw_
 let l:=c7 rw_ (met P S j cc s gf rw_).2.1 (met P S j cc s gf rw_).2.2
 have hz: ∀ f:Nat × PV × PV->PV,(a.map f).length < 16777216:=λf=>by rw[xn];omega
 let K3:=K2.set r (.lst (a.map bz++[.tup [eO j,gf]]))
 have ap1:aS (.ref r) [.tup [eO j,gf]] K2= .ok .non K3:=by rw[Ky,I2.ru,pA (hz _)]
 have R3:Rep K3 n P S S.ck:=I2.R.same λi h1 h2=>bp (by omega);obtain⟨K4,F4,R4,go⟩:=Ba T _ ok W N9 R3 ex es ec er hw hg;have go':run pg (k+20) "_law_go" [P.v,.ref n,eO j,gf] K3= .ok l K4:=go;have lo3:K3[r+1]?=fI (.lst (a.map cJ)):=by show(K2.set _ _)[_]?=_;rw[bp (by omega)];exact I2.lo
 have lo4:K4[r+1]?=fI (.lst (a.map cJ)):=by rw[F4.off _ (by omega)];exact lo3
 let K5:=K4.set (r+1) (.lst (a.map cJ++[.tup [eO j,l]]))
 have ap2:aS (.ref (r+1)) [.tup [eO j,l]] K4= .ok .non K5:=by rw[Ky,lo4,pA (hz _)]
 have R5:Rep K5 n P S1 S1.ck:=R4.same λi h1 h2=>bp (by omega);have W1:=AF ok W ex es ec er hw hg;have can:=qC T (k+17) ok W1 R5.cells;have can':run pg (k+20) "_law_can" [P.v,.ref n] K5= .ok (.ref K5.length) (K5++[.lst ((gC P S1).map eO)]):=can;have out: ∀ i,i≠r->i≠r+1->(i < n\/n+7+3*P.hs.length<=i)->K5[i]?=K2[i]?:=λi h1 h2 h3=>by
  show(K4.set _ _)[i]?=_;rw[bp (λe=>h2 e.symm),F4.off i h3];exact bp λe=>h1 e.symm
 have lr2:=aC I2.ru;have I5:DI H fr n r P q2 S1 (a++[(j,gf,l)]) K5:=by
  refine⟨by rw[out 0 (by omega) (by omega) (by omega)];exact I2.z0,by rw[out 1 (by omega) (by omega) (by omega)];exact I2.z1,R5,?_,?_,λi h1 h2 h3=>by rw[out i (by omega) (by omega) h3];exact I2.off i h1 h2 h3⟩
  . show(K4.set _ _)[r]?=_;rw[bp (by omega),F4.off _ (by omega),SH];exact lZ lr2
  . show(K4.set _ _)[r+1]?=_;rw[lZ (aC lo4),SH];rfl
 refine⟨j,gf,l,S1,q2,K5++[.lst ((gC P S1).map eO)],K5.length,fI (eO j),fI gf,⟨x,s,cc,rw_,ex,es,ec,er,hw,hg,rfl,rfl⟩,I5.app _,aT,aC I5.lo,?_⟩;rw[<- hK0];have ru2:=I2.ru
 clear_value K3 K5 S1 l
 simp? [QE,ln,ev',ix1,ro',eg',ru2,↓ap1,lo3,go',lo4,↓ap2,can']
end
section
variable{pg:Tb}(T:bH pg)
include T
theorem BP k (ok:P.Ok) (n2:2<=n) (nr:n+7+3*P.hs.length<=r) (W0:eK P N S0) (m9:N+m<=60): ∀ d f a S q Z c e7 e8,a.length+d=m->d < f->Wk P S0 a S->DI H fr n r P q S a Z->Z[c]?=fI (.lst ((gC P S).map eO))->r+1 < c ->
  ∃(a':List (Nat × PV × PV))(S':Wd)(q':Int × Int × Int)(Z':PH)(c':Nat)(f7 f8:Option PV),a'.length<=m/\Wk P S0 a' S'/\DI H fr n r P q' S' a' Z' /\
   cR (Ji (run pg (k+20))) (QE (run pg (k+20))) f [fI P.v,fI (.ref 1),fI (.ref n),fI (.int (m)),fI (.ref r),fI (.ref (r+1)),fI (.ref c),e7,e8] Z= .ok (.nx [fI P.v,fI (.ref 1),fI (.ref n),fI (.int (m)),fI (.ref r),fI (.ref (r+1)),fI (.ref c'),f7,f8]) Z':=by
 intro d
 induction d with
 | zero =>
  intro f a S q Z c e7 e8 ha hf w I hc rc
  obtain⟨f,rfl⟩: ∃ j,f=j+1:=⟨f - 1,by omega⟩
  refine⟨a,S,q,Z++[.lst []],c,e7,e8,by omega,w,I.app _,?_⟩
  obtain⟨ds,d1,d2⟩:=IY _
  have ne:=Av (h:=Z++[.lst []]) ((aq (aC hc)).trans hc) aT d1 d2
  have ru:=(I.app [.lst []]).ru
  have ln:bG [.ref r] (Z++[.lst []])= .ok (.int (a.length)) (Z++[.lst []]):=by rw[qP,ru,lx,xn]
  have z: ¬ (a.length) < (m:Int):=by omega
  have tt:Ji (run pg (k+20)) [fI P.v,fI (.ref 1),fI (.ref n),fI (.int (m)),fI (.ref r),fI (.ref (r+1)),fI (.ref c),e7,e8] Z= .ok false (Z++[.lst []]):=by
   by_cases q0:(gC P S).map eO=[]
   . have dt:=decide_eq_true q0;rw[dt] at ne;simp? [Ji,ne]
   . have dt:=decide_eq_false q0;rw[dt] at ne;simp? [Ji,ne,ln,z]
  rw[cR,tt,d9,if_neg T6]
 | succ d ih =>
  intro f a S q Z c e7 e8 ha hf w I hc rc
  obtain⟨f,rfl⟩: ∃ j,f=j+1:=⟨f - 1,by omega⟩
  obtain⟨ds,d1,d2⟩:=IY (gC P S)
  have hc':(Z++[PO.lst []])[c]?=fI (.lst ((gC P S).map eO)):=(aq (aC hc)).trans hc
  have ne:=Av hc' aT d1 d2
  have I':=I.app [.lst []]
  have ru:=I'.ru
  have ln:bG [.ref r] (Z++[.lst []])= .ok (.int (a.length)) (Z++[.lst []]):=by rw[qP,ru,lx,xn]
  have z:(a.length) < (m:Int):=by omega
  by_cases q0:(gC P S).map eO=[]
  . refine⟨a,S,q,Z++[.lst []],c,e7,e8,by omega,w,I',?_⟩;have dt:=decide_eq_true q0;rw[dt] at ne;have tt:Ji (run pg (k+20)) [fI P.v,fI (.ref 1),fI (.ref n),fI (.int (m)),fI (.ref r),fI (.ref (r+1)),fI (.ref c),e7,e8] Z= .ok false (Z++[.lst []]):=by
     simp? [Ji,ne]
    rw[cR,tt,d9,if_neg T6]
  . have dt:=decide_eq_false q0;rw[dt] at ne;have tt:Ji (run pg (k+20)) [fI P.v,fI (.ref 1),fI (.ref n),fI (.int (m)),fI (.ref r),fI (.ref (r+1)),fI (.ref c),e7,e8] Z= .ok true (Z++[.lst []]):=by
     simp? [Ji,ne,ln,z]
    have W:=w.ok ok W0;obtain⟨j,g,l,S1,q1,Z1,c1,f7,f8,st,I1,hc1,rc1,e1⟩:=Ci T k ok n2 nr W (by omega) (by omega) I' hc' rc (λe=>q0 (by rw[e];rfl)) (.int (m)) e7 e8;obtain⟨a',S',q',Z',c',g7,g8,h1,h2,h3,h4⟩:=ih f (a++[(j,g,l)]) S1 q1 Z1 c1 f7 f8 (by rw[Sj,List.length_singleton];omega) (by omega) (w.app (.cons st (.nil _))) I1 hc1 rc1;exact⟨a',S',q',Z',c',g7,g8,h1,h2,h3,by rw[JH tt e1];exact h4⟩
theorem vC k {G:PH} (ok:P.Ok) (n2:2<=n) (W:eK P N S) (R:Rep (fr::bV q::G) n P S S.ck) (hl:n+7+3*P.hs.length<=(fr::bV q::G).length) (m9:N+m<=60) :
  ∃(a:List (Nat × PV × PV))(S':Wd)(q':Int × Int × Int)(G':PH),a.length<=m/\Wk P S a S'/\G'.length=G.length/\Rep (fr::bV q'::G') n P S' S'.ck/\(∀ i,i≠1->(i < n\/n+7+3*P.hs.length<=i)->(fr::bV q'::G')[i]?=(fr::bV q::G)[i]?) /\
   run pg (k+21) "_law_drawn" [P.v,.ref 1,.ref n,.int (m)] (fr::bV q::G)= .ok (.tup [.tup (a.map bz),.tup (a.map cJ)]) (fr::bV q'::G'):=by
 obtain⟨H,hH⟩: ∃ H,H=fr::bV q::G:=⟨_,rfl⟩
 rw[<- hH] at R hl ⊢;have hm:=ok.many
 let r:=H.length
 have can:=qC T (k+17) ok W (R.app [.lst [],.lst []]).cells;have can':run pg (k+20) "_law_can" [P.v,.ref n] (H++[.lst [],.lst []])= .ok (.ref (H.length+(0+1+1))) (H++[.lst [],.lst [],.lst ((gC P S).map eO)]):=by
  have:(H++[PO.lst [],.lst []]).length=H.length+(0+1+1):=by rw[Sj];rfl
  rw[<- this];refine can.trans ?_;rw[R7];rfl
 let Z0:=H++[.lst [],.lst [],.lst ((gC P S).map eO)]
 have I0:DI H fr n r P q S [] Z0:=⟨by show(H++_)[0]?=_;rw[hH];rfl,by show(H++_)[1]?=_;rw[hH];rfl,R.app _,aT,by show(H++_)[H.length+1]?=_;rw[aP];rfl,λi h1 _ _=>aq h1⟩
 obtain⟨a,S',q',Z',c',f7,f8,la,w,I,wh⟩:=BP T k ok n2 hl W m9 m 100000 [] S q Z0 (H.length+(0+1+1)) ox ox (by simp) (by omega) (.nil S) I0 (by show(H++_)[_]?=_;rw[aP];rfl) (by omega);have W':=w.ok ok W;have sh:=w.sh ok (by omega) W;have lz:=aC I.ru;have tk: ∀ i,i < r->(Z'.take r)[i]?=Z'[i]?:=λi hi=>by rw[Xh];simp[hi]
 obtain⟨G',hG'⟩:=tR (by rw[tk 0 (by omega)];exact I.z0) (by rw[tk 1 (by omega)];exact I.z1);have lG:G'.length=G.length:=by
  have e1:(Z'.take r).length=r:=by rw[TM];omega
  rw[hG'] at e1;have e2:r=(fr::bV q::G).length:=by show H.length=_;rw[hH]
  rw[e2] at e1;simpa using e1
 refine⟨a,S',q',G',la,w,lG,?_,λi h1 h2=>?_,?_⟩
 . rw[<- hG'];exact I.R.same λi h1 h2=>tk i (by omega)
 . rw[<- hG'];by_cases z:i < r
   . rw[tk i z];exact I.off i z h1 h2
   . rw[Tn (by rw[TM];omega),Tn (by omega)]
 have fl:PV.flat (.tup [.tup (a.map bz),.tup (a.map cJ)])=true:=by
  have s1:=EN ok (by omega) sh;have f1:=gF _ s1.1.ok;have f2:=gF _ s1.2.ok;rw[PV.flat,PV.bh,PV.bh,PV.bh,f1,f2];rfl
 have se:=v8 fl (Vl lz) λi o o' e e'=>by
  have hi:=aC e;by_cases z1:i=1
  . subst z1;rw[hH] at e;rw[I.z1] at e';cases e;cases e';exact .inr ⟨rfl,rfl⟩
  . by_cases z2:i < n\/n+7+3*P.hs.length<=i
    . rw[I.off i hi z1 z2,e] at e';exact .inl (SY e')
    . exact Rep.drop R I.R W W' hl (by omega) (by omega) e e'
 have tu1:aQ [.ref r] Z'= .ok (.tup (a.map bz)) Z':=by rw[jb,I.ru,gB]
 have tu2:aQ [.ref (r+1)] Z'= .ok (.tup (a.map cJ)) Z':=by rw[jb,I.lo,gB]
 rw[run_eq T.uC rfl,<- hG'];have A:jf (run pg (k+20)) [fI P.v,fI (.ref 1),fI (.ref n),fI (.int (m)),ox,ox,ox,ox,ox] H= .ok (.rt (.tup [.tup (a.map bz),.tup (a.map cJ)])) Z':=by
  show ag _ (ag _ (ag _ (ag _ _))) _ _ _=_;refine(aR (e1:=[fI P.v,fI (.ref 1),fI (.ref n),fI (.int (m)),fI (.ref H.length),ox,ox,ox,ox]) (h1:=H++[.lst []]) ?_).trans ?_
  . simp? [SF]
  refine(aR (e1:=[fI P.v,fI (.ref 1),fI (.ref n),fI (.int (m)),fI (.ref H.length),fI (.ref (H.length+(0+1))),ox,ox,ox]) (h1:=H++[.lst [],.lst []]) ?_).trans ?_
  . simp? [SF]
  refine(aR (e1:=[fI P.v,fI (.ref 1),fI (.ref n),fI (.int (m)),fI (.ref H.length),fI (.ref (H.length+(0+1))),fI (.ref (H.length+(0+1+1))),ox,ox]) (h1:=Z0) ?_).trans ?_
  . simp? [can',Z0]
  refine(aR (e1:=[fI P.v,fI (.ref 1),fI (.ref n),fI (.int (m)),fI (.ref r),fI (.ref (r+1)),fI (.ref c'),f7,f8]) (h1:=Z') ?_).trans ?_
  . exact wh
  . simp? [tu1,tu2]
 show fin _ (jf (run pg (k+20)) [fI P.v,fI (.ref 1),fI (.ref n),fI (.int (m)),ox,ox,ox,ox,ox] H)=_;rw[A,lM];exact se
end
structure Tc where
 e:Pr
 w:Str
 t:Str
 v:PV
 m:PV
noncomputable def Tc.V(t:Tc):PV:= .tup [nG t.e,.tup [.str t.w,.str t.t,t.v,t.m]]
def IZ m:=m= .non\/(∃ i,m= .int i)\/ ∃ p ,m=nG p
noncomputable def dP(p:Pr):Vd:= .tuple [.int p.1,.int p.2]
theorem zY(sc:jR x y=false)(ea:dat 6 h x=fI a)(eb:dat 6 h y=fI b)(ca:a.canLay0=true)(cb:b.canLay0=true)(hd:min a.depth b.depth<=64):alike x y h=fI (U6 a b):=by
 unfold alike;rw[sc,ea,eb];exact(if_neg T6).trans (if_pos ⟨ca,cb,hd⟩)
theorem NZ p q:U6 (dP p) (dP q)=decide (p=q):=by
 rw[Uj];simp[dP,U6,qU,Oj]
theorem pP:nG p=nG q↔p=q:=by simp[nG,Oj]
section
variable{h:PH}
theorem eq_mk(ha:IZ a)(hb:IZ b):eE a b h= .ok (.bl (decide (a=b))) h:=by
 rcases ha with rfl | ⟨i,rfl⟩ | ⟨p,rfl⟩<;>rcases hb with rfl | ⟨j,rfl⟩ | ⟨q,rfl⟩
 . rfl
 . rfl
 . rfl
 . rfl
 . rw[Al];simp
 . rfl
 . rfl
 . rfl
 . unfold eE;rw[zY (a:=dP p) (b:=dP q) rfl rfl rfl rfl rfl (show min (1) 1<=64 by decide),NZ,decide_eq_decide.mpr (pP)]
theorem Kp(ha:TK a=true)(hb:TK b=true) c d (hc:autoParam (TK c=true) IW) (hd:autoParam (TK d=true) IW):eE (.tup [.str a,.str b]) (.tup [.str c,.str d]) h= .ok (.bl (decide (a=c)&&decide (b=d))) h:=by
 unfold eE;rw[zY (a:= .tuple [.str a,.str b]) (b:= .tuple _) rfl rfl rfl (by simp[Vj,Tg,ha,hb]) (by simp[Vj,Tg,hc,hd]) (show min (1) 1<=64 by decide)];have:U6 (.tuple [.str a,.str b]) (.tuple [.str c,.str d])=(decide (a=c)&&decide (b=d)):=by rw[Uj];simp[U6,qU]
 rw[this]
theorem Ld(t:Tc):aE t.V (.int 0) h= .ok (nG t.e) h:=kI
theorem NL(t:Tc):aE t.V (.int 1) h= .ok (.tup [.str t.w,.str t.t,t.v,t.m]) h:=ig
theorem PK p:aE (nG p) (.int 0) h= .ok (.int p.1) h:=kI
theorem Rh p:aE (nG p) (.int 1) h= .ok (.int p.2) h:=ig
theorem OD a:jE (.str a) (.ktup [.str "send",.str "fetch",.str "say"]) h= .ok (.bl (decide (a∈(["send", "fetch", "say"]:List Str)))) h:=in_K (ss:=["send", "fetch", "say"])
end
theorem uY: ∀ es:List Qr,(PV.tup (es.map cP)).flat=true
 | []=>rfl
 | q::r=>by have:=uY r;rw[PV.flat] at this ⊢; rw[R9,PV.bh,this];rfl
noncomputable def ye a n l (f:Tc):=decide (f.e.1=a)&&(decide (n<=f.e.2)&&(decide (f.w= "free")&&decide (f.t=l)))
noncomputable def Rj:Option Tc->PV
 | some f=>nG f.e
 | none=> .non
noncomputable def kN(ts:List Tc)(s:Tc):=Rj (ts.find? (ye s.e.1 s.e.2 s.t))
theorem Kl o:IZ (Rj o):=by
 cases o with
 | none=>exact .inl rfl
 | some f=>exact .inr (.inr ⟨_,rfl⟩)
noncomputable def pE w:=decide (w∈(["send", "fetch", "say"]:List Str))
noncomputable def QP:PV->PV
 | .int i=> .int (i+1)
 | v=>v
noncomputable def M0(ts:List Tc)(s t:Tc):=decide (s.t=t.t)&&(
 if (s.w= "put" /\t.w= "get")\/(s.w= "put" /\t.w= "put") then decide (t.m=nG s.e)
 else if s.w= "get" /\t.w= "put" then decide (t.m=s.m)
 else if s.w= "take" /\t.w= "take" then decide (t.m=kN ts s)
 else decide (s.w=t.w)&&(pE s.w&&decide (t.m=QP s.m)))
structure sU(t:Tc):Prop where
 sw:TK t.w=true
 st:TK t.t=true
 m:IZ t.m
 n:pE t.w=true-> ∃ i,t.m= .int i
noncomputable def FD:=(bS (iq (aF (ao eE (eX 4 0) (aa 1))) (iq (aF (ao Pb (eX 4 1) (aa 3))) (iq (mQ (eX 5 0) (eS "free")) (aF (ao eE (eX 5 1) (aa 2)))))) (aA (aa 4)) cD)
section
variable{pg:Tb}(T:bH pg)
include T
theorem Iv k h a n l (hj:h[j]?=fI (.lst xs0)): ∀(ts:List Tc) e0 e4 e5,
  bK ⟨fI j,xs0⟩ (aW (gT 2 (ax (gN 4) (ax (gN 5) bN))) FD (run pg k)) (ts.map Tc.V) [e0,fI (.int a),fI (.str l),fI (.int n),e4,e5] h=match ts.find? (ye a n l) with
   | some f=> .ok (.rt (nG f.e)) h
   | none=>(bK ⟨fI j,xs0⟩ (aW (gT 2 (ax (gN 4) (ax (gN 5) bN))) FD (run pg k)) [] [e0,fI (.int a),fI (.str l),fI (.int n),match ts.getLast? with | some t=>fI (nG t.e) | none=>e4,match ts.getLast? with | some t=>fI (.tup [.str t.w,.str t.t,t.v,t.m]) | none=>e5] h):=by
 intro ts
 induction ts with
 | nil=>intro e0 e4 e5;rfl
 | cons t ts ih =>
  intro e0 e4 e5
  have gl: ∀(x:Option PV)(f:Tc->PV),(match (t::ts).getLast? with | some t=>fI (f t) | none=>x)=(match ts.getLast? with | some t=>fI (f t) | none=>fI (f t)):=λx f=>by
   rw[List.getLast?_cons];cases ts.getLast?<;>rfl
  rw[R9,gY (bE hj)]
  have p0:=PK (h:=h) t.e
  have p1:=Rh (h:=h) t.e
  by_cases c:ye a n l t=true
  . rw[List.find?_cons_of_pos c];unfold ye at c;rw[Sr,Sr,Sr,decide_eq_true_eq] at c;obtain⟨c1,c2,c3,c4⟩:=c;have st:aW (gT 2 (ax (gN 4) (ax (gN 5) bN))) FD (run pg k) t.V [e0,fI (.int a),fI (.str l),fI (.int n),e4,e5] h= .ok (.rt (nG t.e)) h:=by
     unfold Tc.V;simp? [FD,p0,p1,c1,c2,c3,c4]
    rw[st];rfl
  . rw[YU c];have st:aW (gT 2 (ax (gN 4) (ax (gN 5) bN))) FD (run pg k) t.V [e0,fI (.int a),fI (.str l),fI (.int n),e4,e5] h= .ok (.nx [e0,fI (.int a),fI (.str l),fI (.int n),fI (nG t.e),fI (.tup [.str t.w,.str t.t,t.v,t.m])]) h:=by
     unfold ye at c;unfold Tc.V;by_cases c1:t.e.1=a
     . by_cases c2:n<=t.e.2
       . by_cases c3:t.w= "free"
         . by_cases c4:t.t=l
           . exact absurd (by simp[c1,c2,c3,c4]) c
           . simp? [FD,p0,p1,c1,c2,c4]
         . simp? [FD,p0,p1,c2,c3]
       . simp? [FD,p0,p1,c2]
     . simp? [FD,p0,c1]
    rw[st,cK,bL,ih];rw[gl e4 (λt=>nG t.e),gl e5 (λt=> .tup _)]
theorem uX k h (hn:h[n]?=fI (.lst (ts.map Tc.V))) s:run pg (k+1) "free_from" [.ref n,.int s.e.1,.str s.t,.int s.e.2] h= .ok (kN ts s) h:=by
 have lp:=Iv T k h s.e.1 s.e.2 s.t hn ts (fI (.ref n)) ox ox;have it:lA (.ref n) h= .ok ⟨fI n,ts.map Tc.V⟩ h:=by rw[jI,hn,lK]
 unfold FD at lp;unfold kN;rw[run_eq T.yb rfl];cases e:ts.find? _ with
 | some f =>
  rw[e] at lp
  simp? [fH,jS,it,lp]
  rfl
 | none =>
  rw[e] at lp
  simp only[mL (bE hn)] at lp
  simp? [fH,jS,it,lp]
  rfl
end
noncomputable def fk(ts:List Tc) t s:= !decide (s.e.1=t.e.1)&&M0 ts s t
noncomputable def tC(f:Tc->Tc->Bool)(t:Tc)(pre:List Tc):List Qr:=(pre.filter (f t)).map λs=>(s.e,t.e)
noncomputable def eF(f:Tc->Tc->Bool):List Tc->List Tc->List Qr
 | _,[]=>[]
 | p,t::r=>tC f t p++eF f (p++[t]) r
noncomputable def GD:=(bS (iq (aF (ao kR (ao aE (eX 4 0) (eI 0)) (ao aE (eX 3 0) (eI 0)))) (aF (ai "is_needed" (a3 (aa 0) (aa 4) (aa 3))))) (cf (eM aS bD (aa 1) (ae (aw (a2 (eX 4 0) (eX 3 0))) aj))) cD)
section
variable{pg:Tb}(T:bH pg)
include T
theorem uj k h (hn:h[n]?=fI (.lst (ts.map Tc.V))) (hs:sU s) (ht:sU t):run pg (k+2) "is_needed" [.ref n,s.V,t.V] h= .ok (.bl (M0 ts s t)) h:=by
 have ff:=uX T k h hn s;have q:=λc d hc hd=>Kp (h:=h) hs.sw ht.sw c d hc hd;have q1:=q "put" "get" (by decide +kernel) (by decide +kernel);have q2:=q "put" "put" (by decide +kernel) (by decide +kernel);have q3:=q "get" "put" (by decide +kernel) (by decide +kernel);have q4:=q "take" "take" (by decide +kernel) (by decide +kernel);have m1:=eq_mk (h:=h) ht.m (.inr (.inr ⟨s.e,rfl⟩));have m2:=eq_mk (h:=h) ht.m hs.m;have m3:=eq_mk (h:=h) ht.m (Kl (ts.find? (ye s.e.1 s.e.2 s.t)));have i3:=OD (h:=h) s.w;have s0:=Ld (h:=h) s;have s1:=NL (h:=h) s;have t1:=NL (h:=h) t;have p0:=PK (h:=h) s.e;have p1:=Rh (h:=h) s.e;rw[run_eq T.xa rfl];unfold M0;by_cases c0:s.t=t.t
 . by_cases c1:(s.w= "put" /\t.w= "get")\/(s.w= "put" /\t.w= "put")
   . have c1':(decide (s.w= "put")&&decide (t.w= "get"))=true\/(decide (s.w= "put")&&decide (t.w= "put"))=true:=by simpa using c1
     rw[decide_eq_true c0,if_pos c1];rcases c1' with z | z
     . simp? [bw,bQ,s0,s1,t1,c0,q1,z,m1,UL]
     . by_cases y:(decide (s.w= "put")&&decide (t.w= "get"))=true
       . simp? [bw,bQ,s0,s1,t1,c0,q1,y,m1,UL]
       . simp? [bw,bQ,s0,s1,t1,c0,q1,q2,y,z,m1,UL]
   . have y:(decide (s.w= "put")&&decide (t.w= "get"))=false:=by simpa using λa b=>c1 (.inl ⟨a,b⟩)
     have z:(decide (s.w= "put")&&decide (t.w= "put"))=false:=by simpa using λa b=>c1 (.inr ⟨a,b⟩)
     rw[decide_eq_true c0,if_neg c1];by_cases c2:s.w= "get" /\t.w= "put"
     . have x:(decide (s.w= "get")&&decide (t.w= "put"))=true:=by simpa using c2
       rw[if_pos c2];simp? [bw,bQ,s0,s1,t1,c0,q1,q2,q3,x,y,z,m2,UL]
     . have x:(decide (s.w= "get")&&decide (t.w= "put"))=false:=by simpa using λa b=>c2 ⟨a,b⟩
       rw[if_neg c2];by_cases c3:s.w= "take" /\t.w= "take"
       . have w:(decide (s.w= "take")&&decide (t.w= "take"))=true:=by simpa using c3
         rw[if_pos c3];unfold kN at ff ⊢;rw[c0] at ff m3 ⊢;simp? [bw,bQ,s0,s1,t1,p0,p1,c0,q1,q2,q3,q4,w,x,y,z,ff,m3,UL]
       . have w:(decide (s.w= "take")&&decide (t.w= "take"))=false:=by simpa using λa b=>c3 ⟨a,b⟩
         rw[if_neg c3];by_cases c4:s.w=t.w
         . by_cases c5:pE s.w=true
           . obtain⟨i,ei⟩:=hs.n c5;have m4:=eq_mk (h:=h) ht.m (.inr (.inl ⟨i+1,rfl⟩));have c5':=of_decide_eq_true c5;rw [c5,ei,QP];rw [c4] at c5' i3 q1 q2 q3 q4 w x y z;simp? [bw,bQ,s0,s1,t1,c0,c4,q1,q2,q3,q4,w,x,y,z,i3,c5',ei,m4,UL,decide_true]
           . have c5': ¬ (s.w∈(["send", "fetch", "say"]:List Str)):=λz=>c5 (decide_eq_true z);rw [Bool.eq_false_iff.mpr c5];rw [c4] at c5' i3 q1 q2 q3 q4 w x y z;simp? [bw,bQ,s0,s1,t1,c0,c4,q1,q2,q3,q4,w,x,y,z,i3,c5',UL,Wy,Xw,decide_true]
         . simp? [bw,bQ,s0,s1,t1,c0,c4,q1,q2,q3,q4,w,x,y,z,UL,Wy,decide_false]
 . simp? [bw,bQ,s0,s1,t1,c0,Wy,decide_false]
end
noncomputable def gV(c:List Int):List (Nat × PV × PV)->List Int
 | []=>[]
 | z::a=>(c[z.1]?).getD 0::gV (c.set z.1 ((c[z.1]?).getD 0+1)) a
noncomputable def zO(z:(Nat × PV × PV) × Int):PV:= .tup [eO z.1.1,.int z.2]
noncomputable def gS(z:(Nat × PV × PV) × Int):PV:= .tup [zO z,z.1.2.2]
theorem AH: ∀ a c,(gV c a).length=a.length
 | [],_=>rfl
 | z::a,c=>by rw[gV,Sb,Sb,AH a]
theorem DQ: ∀(a:List (Nat × PV × PV)) ns,ns.length=a.length->yO ((a.zip ns).map zO) (a.map λz=>z.2.2)=(a.zip ns).map gS
 | [],_,_=>rfl
 | z::a,n::ns,h=>by
  have:=DQ a ns (by simpa using h);unfold yO at this ⊢;rw[UT,R9,R9,UT,R9,this];rfl
noncomputable def PZ:=(ag (cf (eM aS bD (aa 3) (ae (aw (ae (aa 4) (ae (ao aE (aa 2) (aa 4)) aj))) aj)))
  (Cq (aa 2) (aa 4) (eI 1)))
section
variable{pg:Tb}(T:bH pg)
include T
theorem F6 k (h:PH) (hl:h[hh]?=fI (.lst xs0)) e0 e1: ∀(a:List (Nat × PV × PV)) c es e4,(∀ z∈a,z.1 < c.length)->es.length+a.length<=1000 ->
  ∃(c':List Int)(f4:Option PV),bK ⟨fI hh,xs0⟩ (aW (gN 4) PZ (run pg k)) (a.map λz=>eO z.1) [e0,e1,fI (.ref h.length),fI (.ref (h.length+1)),e4] (h++[.lst (c.map PV.int),.lst es])= .ok (.nx [e0,e1,fI (.ref h.length),fI (.ref (h.length+1)),f4]) (h++[.lst (c'.map PV.int),.lst (es++(a.zip (gV c a)).map zO)]):=by
 intro a
 induction a with
 | nil=>intro c es e4 _ _;exact⟨c,e4,by rw[SF,mL (bE ((aq (aC hl)).trans hl)),NU,SF,SA]⟩
 | cons z a ih =>
  intro c es e4 hz hn
  rw[Sb] at hn
  have h1:=hz z (by simp)
  obtain⟨n,en⟩: ∃ n,c[z.1]?=fI n:=⟨_,R6 h1⟩
  obtain⟨c',f4,i1⟩:=ih (c.set z.1 (n+1)) (es++[zO (z,n)]) (fI (eO z.1)) (λy m=>by rw[Td];exact hz y (by simp[m])) (by rw[Sj];simp;omega)
  refine⟨c',f4,?_⟩
  have e5:es.length < 16777216:=by omega
  have ix: ∀ g:List PV,aE (.ref h.length) (eO z.1) (h++[.lst (c.map PV.int),.lst g])= .ok (.int n) (h++[.lst (c.map PV.int),.lst g]):=λg=>by unfold eO;rw[oM,aT,ph,ba en];rfl
  have au: ∀ g:List PV,Cq (aa 2) (aa 4) (eI 1) (run pg k) [e0,e1,fI (.ref h.length),fI (.ref (h.length+1)),fI (eO z.1)] (h++[.lst (c.map PV.int),.lst g])= .ok (.nx [e0,e1,fI (.ref h.length),fI (.ref (h.length+1)),fI (eO z.1)]) (h++[.lst ((c.set z.1 (n+1)).map PV.int),.lst g]):=λg=>by
   refine MV rfl rfl (abc aT (by rw[Sq,en];rfl)) rfl rfl ?_;unfold eO;rw[Jr,aT,mY rfl (by rw[xn];exact h1),iG,Xg,List.map_set]
  have st:aW (gN 4) PZ (run pg k) (eO z.1) [e0,e1,fI (.ref h.length),fI (.ref (h.length+1)),e4] (h++[.lst (c.map PV.int),.lst es])= .ok (.nx [e0,e1,fI (.ref h.length),fI (.ref (h.length+1)),fI (eO z.1)]) (h++[.lst ((c.set z.1 (n+1)).map PV.int),.lst (es++[zO (z,n)])]):=by
   have ap:=pA (n:=h.length+1) (v:=zO (z,n)) (h:=h++[PO.lst (c.map PV.int),.lst es]) e5;unfold zO at ap ⊢;have au':=au (es++[.tup [eO z.1,.int n]]);have ix':=ix es;simp? [PZ,ix',ap,au']
  rw[R9,gY (bE ((aq (aC hl)).trans hl)),st,cK,bL,i1,gV,en,SE,UT,R9,R7]
  rfl
theorem vo k h {a:List (Nat × PV × PV)} (hl:h[hh]?=fI (.lst (a.map λz=>eO z.1))) (hz: ∀ z∈a,z.1 < S.aX.length) (hn:a.length<=1000) :
  ∃ o ,run pg (k+1) "events_by" [az S,.ref hh] h= .ok (.ref (h.length+1)) (h++[o,.lst ((a.zip (gV S.aX a)).map zO)]):=by
 obtain⟨c',f4,lp⟩:=F6 T k h hl (fI (az S)) (fI (.ref hh)) a S.aX [] ox hz (by simpa using hn);refine⟨.lst (c'.map PV.int),?_⟩;have i0: ∀ g,aE (az S) _ g= .ok _ g:=λg=>kI;have it:lA (.ref hh) (h++[.lst (S.aX.map PV.int),.lst []])= .ok ⟨fI hh,a.map λz=>eO z.1⟩ (h++[.lst (S.aX.map PV.int),.lst []]):=by rw[jI,(aq (aC hl)).trans hl,lK]
 unfold PZ at lp;rw[run_eq T.xl rfl];simp? [hB,oY,i0,it,lp];exact aY rfl
theorem jU k h {a:List (Nat × PV × PV)} (hz: ∀ z∈a,z.1 < S.aX.length) (hn:a.length<=100) :
  ∃ o1 o2 o3 o4 ,run pg (k+2) "with_events" [az S,.tup (a.map cJ)] h= .ok (.ref (h.length+4)) (h++[o1,o2,o3,o4,.lst ((a.zip (gV S.aX a)).map gS)]):=by
 have lc1: ∀(E:ay)(H:PH),E.length=3->dU _ (aM 2 (gT 2 (ax (gN 3) (ax (gN 4) bN))) aK (aa 3) (run pg (k+1)) E) (a.map cJ) [] H= .ok (a.map λz=>eO z.1) H:=λE H hE=>by
  obtain⟨x,y,z,rfl⟩: ∃ x y z,E=[x,y,z]:=by
   match E,hE with
   | [x,y,z],_=>exact⟨x,y,z,rfl⟩
  refine Ec (by omega) λz m=>?_;simp? [cJ]
 have lc2: ∀(E:ay)(H:PH),E.length=3->dU _ (aM 2 (gT 2 (ax (gN 3) (ax (gN 4) bN))) aK (aa 4) (run pg (k+1)) E) (a.map cJ) [] H= .ok (a.map λz=>z.2.2) H:=λE H hE=>by
  obtain⟨x,y,z,rfl⟩: ∃ x y z,E=[x,y,z]:=by
   match E,hE with
   | [x,y,z],_=>exact⟨x,y,z,rfl⟩
  refine Ec (by omega) λz m=>?_;simp? [cJ]
 obtain⟨o,ev⟩:=vo T k (h++[.lst _]) aT hz (by omega);refine⟨.lst (a.map λz=>eO z.1),o,.lst ((a.zip (gV S.aX a)).map zO),.lst (a.map λz=>z.2.2),?_⟩;have ev':=ev;have zz:Nt (.ref (h.length+2)) (.ref (h.length+3)) (h++[.lst (a.map λz=>eO z.1),o,.lst ((a.zip (gV S.aX a)).map zO),.lst (a.map λz=>z.2.2)])= .ok (.ref (h.length+4)) (h++[.lst (a.map λz=>eO z.1),o,.lst ((a.zip (gV S.aX a)).map zO),.lst (a.map λz=>z.2.2),.lst ((a.zip (gV S.aX a)).map gS)]):=by
  rw[abe (by rw[aP];rfl) (by rw[aP];rfl),DQ a _ (AH a _),R7,Sj];rfl
 have A1:=lc1 [fI (az S),fI (.tup (a.map cJ)),ox] h rfl;have A2:=lc2 [fI (az S),fI (.tup (a.map cJ)),fI (.ref (h.length+2))] (h++[.lst (a.map λz=>eO z.1),o,.lst ((a.zip (gV S.aX a)).map zO)]) rfl;rw[run_eq T.sZ rfl];simp? [eY,kU,A1,ev',A2,zz];exact aY rfl
end
section
variable{pg:Tb}(T:bH pg)
include T
theorem OT k (h:PH) (hn:h[n]?=fI (.lst (ts.map Tc.V))) (ht:sU t) e2 {g:PH} (hm: ∀ X,(h++X::g)[m]?=fI (.lst xs0)): ∀ pre ps e4,(∀ s∈pre,sU s)->ps.length+pre.length<=10000 ->
  ∃ f4 ,bK ⟨fI m,xs0⟩ (aW (gN 4) GD (run pg (k+2))) (pre.map Tc.V) [fI (.ref n),fI (.ref h.length),e2,fI t.V,e4] (h++ .lst (ps.map cP)::g)= .ok (.nx [fI (.ref n),fI (.ref h.length),e2,fI t.V,f4]) (h++ .lst ((ps++tC (fk ts) t pre).map cP)::g):=by
 intro pre
 induction pre with
 | nil=>intro ps e4 _ _;exact⟨e4,by rw[SF,mL (bE (hm _))];simp[tC]⟩
 | cons s pre ih =>
  intro ps e4 ho hl
  rw[Sb] at hl
  have hs:=ho s So
  have ho':=λx m=>ho x (Sk _ m)
  have nd:=λX=>uj T k (h++X::g) ((aq (aC hn)).trans hn) hs ht
  have s0:=λH=>Ld (h:=H) s
  have t0:=λH=>Ld (h:=H) t
  have s1:=λH=>PK (h:=H) s.e
  have t1:=λH=>PK (h:=H) t.e
  by_cases c:fk ts t s=true
  . obtain⟨f4,i1⟩:=ih (ps++[(s.e,t.e)]) _ ho' (by simp;omega);refine⟨f4,?_⟩;have e:tC (fk ts) t (s::pre)=(s.e,t.e)::tC (fk ts) t pre:=by unfold tC;rw[SJ c,R9]
    unfold fk at c;rw[Sr,Tt] at c;have hz:(ps.map cP).length < 16777216:=by rw[xn];omega
    have st:aW (gN 4) GD (run pg (k+2)) s.V [fI (.ref n),fI (.ref h.length),e2,fI t.V,e4] (h++ .lst (ps.map cP)::g)= .ok (.nx [fI (.ref n),fI (.ref h.length),e2,fI t.V,fI s.V]) (h++ .lst ((ps++[(s.e,t.e)]).map cP)::g):=by
     rw[SH];simp? [GD,nd,c,s0,t0,s1,t1];rfl
    rw[R9,gY (bE (hm _)),st,cK,bL,i1,e,R7];rfl
  . obtain⟨f4,i1⟩:=ih ps _ ho' (by omega);refine⟨f4,?_⟩;have e:tC (fk ts) t (s::pre)=tC (fk ts) t pre:=by unfold tC;rw[SR c]
    have st:aW (gN 4) GD (run pg (k+2)) s.V [fI (.ref n),fI (.ref h.length),e2,fI t.V,e4] (h++ .lst (ps.map cP)::g)= .ok (.nx [fI (.ref n),fI (.ref h.length),e2,fI t.V,fI s.V]) (h++ .lst (ps.map cP)::g):=by
     by_cases d:s.e.1=t.e.1
     . simp? [GD,d,s0,t0,s1,t1]
     . have d':M0 ts s t=false:=by simpa [fk,d] using c
       simp? [GD,nd,d,d',s0,t0,s1,t1]
    rw[R9,gY (bE (hm _)),st,cK,bL,i1,e]
theorem Mv k h (hn:h[n]?=fI (.lst (ts.map Tc.V))) (ho: ∀ t∈ts,sU t) (hl:ts.length<=60): ∀ post pre ps(g:PH) e2 e3 e4,pre++post=ts->ps.length+post.length*60<=4000 ->
  ∃(f2 f3 f4:Option PV)(g':PH),fG n (ts.map Tc.V) (aW (gT 2 (ax (gN 2) (ax (gN 3) bN))) (jv (iC (t9 (aa 0) fR (cL (aa 2)))) (gN 4) GD) (run pg (k+2))) (((post.map Tc.V).zipIdx pre.length).map λq=>PV.tup [.int (q.2),q.1]) [fI (.ref n),fI (.ref h.length),e2,e3,e4] (h++ .lst (ps.map cP)::g) =
   .ok (.nx [fI (.ref n),fI (.ref h.length),f2,f3,f4]) (h++ .lst ((ps++eF (fk ts) pre post).map cP)::g'):=by
 intro post
 induction post with
 | nil=>intro pre ps g e2 e3 e4 _ _;exact⟨e2,e3,e4,g,by rw[SF];simp only[List.zipIdx_nil,SF];rw[Fp ((aq (aC hn)).trans hn),eF,SA]⟩
 | cons t post ih =>
  intro pre ps g e2 e3 e4 he hp
  rw[Sb] at hp
  have lp:pre.length < ts.length:=by rw[<- he];simp
  have hn': ∀ X,(h++X)[n]?=fI _:=λX=>(aq (aC hn)).trans hn
  have cut:fQ (ts.map Tc.V) ox (fI (pre.length))=pre.map Tc.V:=by
   rw[_P.qz (by omega),SQ,<- he,SH,List.take_left' (by simp)]
  obtain⟨f4,i1⟩:=OT T k h hn (ho t (by rw[<- he];simp)) (fI (.int (pre.length))) (m:=h.length+1+g.length) (xs0:=pre.map Tc.V) (g:=g++[.lst (pre.map Tc.V)]) (λX=>by
   rw[Yl,aP,YY 1,S5,S8 (Si _)];simp) pre ps e4 (λs m=>ho s (by rw[<- he];simp[m])) (by omega)
  have hd:(tC (fk ts) t pre).length<=pre.length:=by unfold tC;rw[xn];exact VA ..
  obtain⟨j2,j3,j4,g',i2⟩:=ih (pre++[t]) (ps++tC (fk ts) t pre) _ _ _ f4 (by rw[<- he,R7];rfl) (by rw[Sj];omega)
  refine⟨j2,j3,j4,g',?_⟩
  have st:aW (gT 2 (ax (gN 2) (ax (gN 3) bN))) (jv (iC (t9 (aa 0) fR (cL (aa 2)))) (gN 4) GD) (run pg (k+2)) (.tup [.int (pre.length),t.V]) [fI (.ref n),fI (.ref h.length),e2,e3,e4] (h++ .lst (ps.map cP)::g)= .ok (.nx [fI (.ref n),fI (.ref h.length),fI (.int (pre.length)),fI t.V,f4]) (h++ .lst ((ps++tC (fk ts) t pre).map cP)::(g++[.lst (pre.map Tc.V)])):=by
   have ln:(h++PO.lst (ps.map cP)::g).length=h.length+1+g.length:=by simp;omega
   have it:lA (.ref (h.length+1+g.length)) (h++PO.lst (ps.map cP)::(g++[.lst (pre.map Tc.V)]))= .ok ⟨fI (h.length+1+g.length),pre.map Tc.V⟩ (h++PO.lst (ps.map cP)::(g++[.lst (pre.map Tc.V)])):=by
    rw[jI,Yl,aP,YY 1,S5,S8 (Si _)];simp[lK]
   have sl:yf (.ref n) ox (fI (pre.length)) (h++PO.lst (ps.map cP)::g)= .ok (.ref (h.length+1+g.length)) (h++PO.lst (ps.map cP)::(g++[.lst (pre.map Tc.V)])):=by
    rw[N7,hn',Jl,cut,ln,R7];rfl
   simp? [sl,it,i1]
  rw[R9,EM,R9,abi (hn' _) st]
  have e:pre.length+1=(pre++[t]).length:=by simp
  rw[e,i2,eF,R7]
theorem pY k h (hn:h[n]?=fI (.lst (ts.map Tc.V))) (ho: ∀ t∈ts,sU t) (hl:ts.length<=60) (h64:(eF (fk ts) [] ts).length < 64) (nd:(eF (fk ts) [] ts).Nodup):run pg (k+3) "needs_among" [.ref n] h= .ok (.tup ((dW (eF (fk ts) [] ts)).map cP)) h:=by
 obtain⟨f2,f3,f4,g,lp⟩:=Mv T k h hn ho hl ts [] [] [] ox ox ox rfl (by simp;omega);have hn': ∀ X,(h++X)[n]?=fI _:=λX=>(aq (aC hn)).trans hn;have lp':fG n _ _ (Bp _) _ (h++[.lst []])= .ok _ _:=lp;have fo:=λg b c e=>H6 (g:=g) (b:=b) (c:=c) (e:=e) (hn' [.lst []]);have so:=G2 (h:=h++ .lst _::g) aT h64 nd;have tu:aQ [.ref (h++PO.lst ((eF (fk ts) [] ts).map cP)::g).length] ((h++PO.lst ((eF (fk ts) [] ts).map cP)::g)++[.lst ((dW (eF (fk ts) [] ts)).map cP)])= .ok (.tup ((dW (eF (fk ts) [] ts)).map cP)) ((h++PO.lst ((eF (fk ts) [] ts).map cP)::g)++[.lst ((dW (eF (fk ts) [] ts)).map cP)]):=by rw[jb,aT,gB]
 unfold GD at lp';rw[run_eq T.sT rfl];simp? [fc,kQ,Gf,fo,lp',so];exact bj (uY _)
theorem vU k h (ok:P.Ok) (W:eK P N S) (hN:N+a.length<=60) (w:Wk P S a S2) (ht:(a.zip (gV S.aX a)).map gS=ts.map Tc.V) (ho: ∀ t∈ts,sU t) (hl:ts.length<=60) (h64:(eF (fk ts) [] ts).length < 64) (nd:(eF (fk ts) [] ts).Nodup):run pg (k+17) "needs" [P.v,az S,.tup (a.map bz)] h= .ok (.tup ((dW (eF (fk ts) [] ts)).map cP)) h:=by
 have wk:=iQ T k h ok W hN w;obtain⟨o1,o2,o3,o4,we⟩:=jU T (k+13) h (a:=a) (S:=S) (λz m=>by rw[W.lc];exact(w.sh ok (N:=N) (by omega) W z m).1) (by omega);rw[ht] at we;have tu:run pg (k+16) "touches_of" [P.v,az S,.tup (a.map bz)] h= .ok (.ref (h.length+4)) (h++[o1,o2,o3,o4,.lst (ts.map Tc.V)]):=by
  rw[run_eq T.mM rfl];have we':=we;simp? [d6,jo,wk,we'];exact aY rfl
 have na:=pY T (k+13) (h++[o1,o2,o3,o4,.lst (ts.map Tc.V)]) (n:=h.length+4) (by rw[aP];rfl) ho hl h64 nd;have na':=na;rw[run_eq T.Hf rfl];simp? [pK,Aa,tu,na'];exact bj (uY _)
end
noncomputable def Dy:PV->Str
 | .tup (_:: .str t::_)=>t
 | _=>SO ""
structure Lk(P:Pg)(l:PV):Prop where
 at_: ∃ w t a b,l= .tup [.str w,.str t,a,b]/\(t=SO "" \/ ∃ i,i < 4/\t∈P.nm i)
theorem zv.CK(ok:P.Ok)(h:zv P S j g l S1):Lk P l:=by
 obtain⟨x,s,c,r,ex,es,ec,er,hw,hg,eS,el⟩:=h.at_;have m:=Se er;have nn: ∀ k t,r.nm=fI (k,t)->t∈P.nm k:=λk t q=>E0 ok ex m q;refine⟨r.w,r.tg,_,_,el,?_⟩;cases r<;>first | exact .inr ⟨0,by decide,nn _ _ rfl⟩ | exact .inr ⟨1,by decide,nn _ _ rfl⟩ | exact .inr ⟨2,by decide,nn _ _ rfl⟩ | exact .inr ⟨3,by decide,nn _ _ rfl⟩ | exact .inl rfl
theorem Wk.CK(ok:P.Ok)(h:Wk P S a S2): ∀ z∈a,Lk P z.2.2:=by
 induction h with
 | nil=>simp_all
 | cons st _ ih =>
  intro z m
  rcases Sd.mp m with rfl | m
  . exact st.CK ok
  . exact ih z m
noncomputable def isNm(P:Pg) t:= !((S6 4).map λi=> !decide (t∈P.nm i)).all id
noncomputable def dB P t (L:List ((Nat × PV × PV) × Int)):=if isNm P t=true then L.filter λz=>decide (Dy z.1.2.2=t) else[]
theorem Dh:(cF.map λp=>kP p.1)=(S6 4).map λi=>PV.str (pj i):=rfl
section
variable{pg:Tb}(T:bH pg)
include T
theorem sO k h (ok:P.Ok) (W:eK P N S) (hN:N+a.length<=60) (w:Wk P S a S2) :
  ∃ o1 o2 o3 o4 ,run pg (k+16) "touches_of" [P.v,az S,.tup (a.map bz)] h= .ok (.ref (h.length+4)) (h++[o1,o2,o3,o4,.lst ((a.zip (gV S.aX a)).map gS)]):=by
 have we:=iQ T k h ok W hN w;have sh:=w.sh ok (by omega) W;obtain⟨o1,o2,o3,o4,wi⟩:=jU T (k+13) h (λz m=>by rw[W.lc];exact(sh z m).1) (by omega);refine⟨o1,o2,o3,o4,?_⟩;rw[run_eq T.mM rfl];simp? [d6,jo,we,wi];exact aY rfl
theorem yn k h {P:Pg} (ok:P.Ok) i t: ∃ v ,run pg (k+2) "number_of" [P.v,.str (pj i),.str t] h= .ok v h/\ ∀ g,gX false v g= .ok (.bl (!decide (t∈P.nm i))) g:=by
 by_cases m:t∈P.nm i
 . refine⟨_,oN T k h ok m,λg=>?_⟩;rw[decide_eq_true m];rfl
 . refine⟨.non,?_,λg=>by rw[decide_eq_false m];rfl⟩;have n1:=xr T k h P ok i;have e:(h++[PO.lst _])[h.length]?=fI (.lst ((P.nm i).map PV.str)):=aT;have i1:=Mm e t;rw[run_eq T.pd rfl];simp? [fE,jM,n1,i1,m];exact bj rfl
theorem qW k h (ok:P.Ok) (W:eK P N S) (hN:N+a.length<=60) (w:Wk P S a S2) t :
  ∃(n:Nat)(X:PH),(h++X)[h.length+n]?=fI (.lst ((dB P t (a.zip (gV S.aX a))).map gS))/\run pg (k+17) "history" [P.v,az S,.tup (a.map bz),.str t] h= .ok (.ref (h.length+n)) (h++X):=by
 obtain⟨o1,o2,o3,o4,to⟩:=sO T k h ok W hN w;obtain⟨L,hL⟩: ∃ L,L=a.zip (gV S.aX a):=⟨_,rfl⟩
 rw[<- hL] at to ⊢;have lL:L.length<=100:=by rw[hL,V5];omega
 have th:=w.CK ok;obtain⟨H,hH⟩: ∃ H,H=h++[o1,o2,o3,o4,.lst (L.map gS)]:=⟨_,rfl⟩
 have lH:H.length=h.length+5:=by rw[hH];simp
 rw[<- hH] at to
 let bs:=(S6 4).map λi=> !decide (t∈P.nm i)
 have lc1:dU ⟨ox,(S6 4).map λi=>PV.str (pj i)⟩ (aM 1 (gN 5) aK (Az (gX false) (ai "number_of" (a3 (aa 0) (aa 5) (aa 3)))) (run pg (k+16)) [fI P.v,fI (az S),fI (.tup (a.map bz)),fI (.str t),fI (.ref (h.length+4))]) ((S6 4).map λi=>PV.str (pj i)) [] H= .ok (bs.map PV.bl) H:=by
  show _=RV.ok _ H;rw[Tf];refine Ec (by decide) λi _=>?_;obtain⟨v,e1,e2⟩:=yn T (k+14) H ok i t;simp? [e1,e2];rfl
 have al:=aay (h:=H++[.lst (bs.map PV.bl)]) aT;cases hb:bs.all id with
 | true =>
  have e0:dB P t L=[]:=by
   have:isNm P t=false:=by show(!bs.all id)=false;rw[hb];rfl
   unfold dB;rw[this];rfl
  rw[hb] at al
  refine⟨6,[o1,o2,o3,o4,.lst (L.map gS),.lst (bs.map PV.bl),.lst []],by rw[aP,e0];rfl,?_⟩
  have hh:h++[o1,o2,o3,o4,.lst (L.map gS),.lst (bs.map PV.bl),.lst []]=H++[.lst (bs.map PV.bl),.lst []]:=by rw[hH,R7];rfl
  have h6:h.length+6=H.length+1:=by omega
  rw[hh,h6,run_eq T.tS rfl]
  clear_value bs
  simp? [iD,oq,to,AG,Dh,lc1,al]
  exact aY rfl
 | false =>
  have e0:dB P t L=L.filter λz=>decide (Dy z.1.2.2=t):=by
   have:isNm P t=true:=by show(!bs.all id)=true;rw[hb];rfl
   unfold dB;rw[this];rfl
  rw[hb] at al
  refine⟨6,[o1,o2,o3,o4,.lst (L.map gS),.lst (bs.map PV.bl),.lst ((dB P t L).map gS)],by rw[aP];rfl,?_⟩
  have hh:h++[o1,o2,o3,o4,.lst (L.map gS),.lst (bs.map PV.bl),.lst ((dB P t L).map gS)]=H++[.lst (bs.map PV.bl),.lst ((dB P t L).map gS)]:=by rw[hH,R7];rfl
  have h6:h.length+6=H.length+1:=by omega
  have it:lA (.ref (h.length+4)) (H++[.lst (bs.map PV.bl)])= .ok ⟨fI (h.length+4),L.map gS⟩ (H++[.lst (bs.map PV.bl)]):=by
   rw[jI,hH,R7,aP];rfl
  have fi:kC.ir ⟨fI (h.length+4),L.map gS⟩ (H++[.lst (bs.map PV.bl)])=true:=bE (by rw[hH,R7,aP];rfl)
  have lc2:dU ⟨fI (h.length+4),L.map gS⟩ (aM 1 (gN 5) (aF (ao eE (ao aE (eX 5 1) (eI 1)) (aa 3))) (aa 5) (run pg (k+16)) [fI P.v,fI (az S),fI (.tup (a.map bz)),fI (.str t),fI (.ref (h.length+4))]) (L.map gS) [] (H++[.lst (bs.map PV.bl)])= .ok ((dB P t L).map gS) (H++[.lst (bs.map PV.bl)]):=by
   rw[e0];refine(cM fi L [] (f:=λz=>if decide (Dy z.1.2.2=t)=true then fI (gS z) else ox) (λz m=>?_) (by simp;omega)).trans ?_
   . have mz:z.1∈a:=by rw[hL] at m;exact(V4 m).1
     obtain⟨w0,u,x,y,el,_⟩:=(th _ mz).at_;have eq: ∀ g,aE z.1.2.2 (.int 1) g= .ok (.str u) g:=λg=>by rw[el];exact ig
     have et:Dy z.1.2.2=u:=by rw[el];rfl
     rw[et];by_cases c:u=t
     . simp? [gS,eq,c]
     . simp? [gS,eq,c]
   . rw[SG,<- V0,Xx];congr 2
     funext z
     by_cases c:Dy z.1.2.2=t
     . simp[c,Xd]
     . simp[c,Xd]
  rw[hh,h6,run_eq T.tS rfl]
  clear_value bs
  simp? [iD,oq,to,AG,Dh,lc1,al,it,lc2]
  exact aY rfl
end
theorem nO{α :Type}{ns:List Str}{l:List α}(hl:l.length=ns.length)(m:b∈ns) z d b':((l.set (ns.idxOf b) z)[ns.idxOf b']?).getD d=if b'=b then z else(l[ns.idxOf b']?).getD d:=by
 have h:=VE m;by_cases e:b'=b
 . subst e;rw[if_pos rfl,SV (by rw[hl];exact h)];rfl
 . rw[if_neg e,Te];intro q;refine e ?_;have h':ns.idxOf b' < ns.length:=by rw[<- q];exact h
   have a1:=V8 h;have a2:=V8 h';rw[<- a1,<- a2];simp only[q]
noncomputable def Jo(P:Pg)(S:Wd)(b:Str):=((S.jF[(P.nm 0).idxOf b]?).getD (0,.non)).2
noncomputable def LA(P:Pg)(S:Wd) l:=((S.eV[(P.nm 1).idxOf l]?).getD (ox,.non)).1
noncomputable def yh(P:Pg)(S:Wd) t:=(S.de[(P.nm 2).idxOf t]?).getD (0,0,[])
noncomputable def HK(P:Pg)(S:Wd)(t:Str):=(S.l6[(P.nm 3).idxOf t]?).getD 0
noncomputable def cn P S (w t:Str):=if w= "send" then(yh P S t).1 else if w= "fetch" then(yh P S t).2.1 else HK P S t
def hold(S:Wd)(j:Nat) l:= ∃ s,S.ck[j]?=fI s/\l∈s.held
structure Ef(P:Pg)(S:Wd)(j:Nat)(t:Tc)(S1:Wd):Prop where
 ev:t.e.1=(j:Int)/\S.aX[j]?=fI t.e.2
 ct:S1.aX=S.aX.set j (t.e.2+1)
 ok:sU t
 bm:t.w= "get" \/t.w= "put" ->t.m=Jo P S t.t
 bx: ∀ b,Jo P S1 b=if t.w= "put" /\b=t.t then nG t.e else Jo P S b
 cm:pE t.w=true->t.m= .int (cn P S t.w t.t)
 cx: ∀ w b,pE w=true->cn P S1 w b=cn P S w b+(if w=t.w/\b=t.t then 1 else 0)
 tk:t.w= "take" ->LA P S t.t=ox/\ ¬ hold S j t.t
 fr:t.w= "free" ->hold S j t.t
 lh: ∀ l,LA P S1 l=if t.w= "take" /\l=t.t then fI (j:Int) else if t.w= "free" /\l=t.t then ox else LA P S l
 hd: ∀ i l,hold S1 i l↔((i=j/\t.w= "take" /\l=t.t)\/(hold S i l/\ ¬ (i=j/\t.w= "free" /\l=t.t)))
theorem rI.p(h:rI N v):IZ v:=by
 rcases h with rfl | ⟨a,b,rfl,_⟩
 . exact .inl rfl
 . exact .inr (.inr ⟨(a,b),rfl⟩)
theorem qg(h:pE w=true):w= "send" \/w= "fetch" \/w= "say" :=by
 have:=of_decide_eq_true h;simpa using this
theorem Lw(h:own held r=false):(∀ l,r= .take l->l ∉ held)/\(∀ l,r= .free l->l∈held)/\r.w≠ "let" /\r.w≠ "leap" :=by
 cases r<;>simp_all [own,Rw.w,aD]
theorem ze s v r l:l∈(after s v r).held↔((r.w= "take" /\l=r.tg)\/(l∈s.held/\ ¬ (r.w= "free" /\l=r.tg))):=by
 cases r<;>simp[after,Rw.w,Rw.tg,Rw.th,aD,(eQ _).mem_iff,or_comm]
theorem Oa{P:Pg}(ok:P.Ok)(m:t∈P.nm k):TK t=true:=by
 match k,m with
 | 0,m =>
  obtain⟨z,mz,rfl⟩:=SS.mp (show t∈P.bs.map (·.1) from m)
  exact vq (ok.bx.2 z mz).1
 | 1,m=>exact vq (ok.nm.1.2 t m).1
 | 2,m=>exact vq (ok.nm.2.1.2 t m).1
 | _+3,m=>exact vq (ok.nm.2.2.2 t m).1
theorem zv.ef(ok : P.Ok)(W : eK P N S)(h : zv P S j g l S1) : ∃ t , Ef P S j t S1 /\ l = .tup [.str t.w, .str t.t, t.v, t.m] := by
  obtain ⟨x, s, c, r, ex, es, ec, er, hw, hg, rfl, rfl⟩ := h.at_;have mr := Se er;have so := W.se j x s ex es;obtain ⟨ow, _⟩ := iH so.re er;obtain ⟨o1, o2, o3, o4⟩ := Lw ow;have l0 : S.jF.length = (P.nm 0).length := by rw [W.l0]; exact (xn ..).symm
  have l1 : S.eV.length = (P.nm 1).length := W.l1;have l2 : S.de.length = (P.nm 2).length := W.l2;have l3 : S.l6.length = (P.nm 3).length := W.l3;have th := λk t q => bM ok ex mr (k := k) (t := t) q;have hjs := (RY.mp es).1;refine ⟨⟨((j), c), r.w, r.tg, (met P S j c s g r).2.1, (met P S j c s g r).2.2⟩, ⟨⟨rfl, ec⟩, ?_, ?_, ?_, ?_, ?_, ?_, ?_, ?_, ?_, ?_⟩, rfl⟩
  . cases r <;> rfl
  . have e0 : TK "" = true := by decide +kernel
    have nn : ∀ k t, r.nm = fI (k, t) -> TK t = true := λk t q => Oa ok (E0 ok ex mr q);have bm : ∀ b, b ∈ P.nm 0 -> IZ (Jo P S b) := λb m => by
      obtain ⟨z, ez, mz⟩ := aZ l0 m;unfold Jo; rw [ez]; exact (W.bx z mz).2.p
    have lm : ∀ b, b ∈ P.nm 1 -> IZ ((S.eV[(P.nm 1).idxOf b]?).getD (ox, .non)).2 := λb m => by
      obtain ⟨z, ez, mz⟩ := aZ l1 m;rw [ez]; exact (W.lk z mz).2.p
    cases r <;> refine ⟨(by simp only [Rw.w]; decide +kernel), ?_, ?_, ?_⟩ <;> first
      | exact nn _ _ rfl
      | exact e0
      | exact bm _ (th 0 _ rfl)
      | exact lm _ (th 1 _ rfl)
      | exact .inl rfl
      | exact .inr (.inl ⟨_, rfl⟩)
      | exact λ_ => ⟨_, rfl⟩
      | (intro q; simp [Rw.w, pE, aD] at q)
  . intro q;cases r <;> first | rfl | (simp [Rw.w, aD] at q)
  . intro b;cases r with
    | put b0 e0 =>
      simp only [Jo, cz, gq, met, nO l0 (th 0 b0 rfl)]
      by_cases e : b = b0
      . rw [if_pos e, if_pos ⟨rfl, e⟩]; rfl
      . rw [if_neg e, if_neg λz => e z.2]
    | _ => exact (if_neg λz => by have := z.1; simp [Rw.w, aD] at this).symm
  . intro q;cases r <;> first | (simp [Rw.w, pE, aD] at q; done) | (simp [cn, Rw.w, aD]; rfl)
  . intro w b q;cases r with
    | send b0 e0 =>
      have e1 : yh P (cz P S j c x.2 s g (.send b0 e0)) b = if b = b0 then ((yh P S b0).1 + 1, (yh P S b0).2.1, (yh P S b0).2.2 ++ [e0.val (fP s.ps)]) else yh P S b := by
        simp only [yh, cz, gq, met, nO l2 (th 2 b0 rfl)]
      have e2 : HK P (cz P S j c x.2 s g (.send b0 e0)) b = HK P S b := rfl
      unfold cn; rw [e1, e2]
      by_cases e : b = b0 <;> rcases qg q with rfl | rfl | rfl <;> simp [e, Rw.w, Rw.tg, Rw.th, aD]
    | fetch x0 b0 =>
      have e1 : yh P (cz P S j c x.2 s g (.fetch x0 b0)) b = if b = b0 then ((yh P S b0).1, (yh P S b0).2.1 + 1, (yh P S b0).2.2.tail) else yh P S b := by
        simp only [yh, cz, gq, met, nO l2 (th 2 b0 rfl)]
      have e2 : HK P (cz P S j c x.2 s g (.fetch x0 b0)) b = HK P S b := rfl
      unfold cn; rw [e1, e2]
      by_cases e : b = b0 <;> rcases qg q with rfl | rfl | rfl <;> simp [e, Rw.w, Rw.tg, Rw.th, aD]
    | say b0 e0 =>
      have e1 : HK P (cz P S j c x.2 s g (.say b0 e0)) b = if b = b0 then HK P S b0 + 1 else HK P S b := by
        simp only [HK, cz, gq, met, nO l3 (th 3 b0 rfl)]
      have e2 : yh P (cz P S j c x.2 s g (.say b0 e0)) b = yh P S b := rfl
      unfold cn; rw [e1, e2]
      by_cases e : b = b0 <;> rcases qg q with rfl | rfl | rfl <;> simp [e, Rw.w, Rw.tg, Rw.th, aD]
    | _ => rcases qg q with rfl | rfl | rfl <;> simp [Rw.w, aD] <;> rfl
  . intro q;cases r with
    | take l0 =>
      refine ⟨?_, λ⟨s', e1, e2⟩ => ?_⟩
      . unfold c8 at hw;rw [dR ex es, er] at hw;obtain ⟨z, ez, _⟩ := aZ (ns := P.nm 1) W.l1 (th 1 l0 rfl);simp only [j7, ez] at hw;unfold LA;rw [show S.eV[(P.nm 1).idxOf (Rw.take l0).tg]? = fI z from ez];obtain ⟨z1, z2⟩ := z;cases z1 with
        | none => rfl
        | some i => nomatch hw
      . rw [es] at e1; cases e1;exact o1 l0 rfl e2
    | _ => simp [Rw.w, aD] at q
  . intro q;cases r with
    | free l0 => exact ⟨s, es, o2 l0 rfl⟩
    | _ => simp [Rw.w, aD] at q
  . intro l;cases r with
    | take l0 =>
      simp only [LA, cz, gq, met, nO l1 (th 1 l0 rfl)]
      by_cases e : l = l0 <;> simp [e, Rw.w, Rw.tg, Rw.th, aD]
    | free l0 =>
      simp only [LA, cz, gq, met, nO l1 (th 1 l0 rfl)]
      by_cases e : l = l0 <;> simp [e, Rw.w, Rw.tg, Rw.th, aD]
    | _ => simp [Rw.w, aD] <;> rfl
  . intro i l;have e1 : (cz P S j c x.2 s g r).ck = S.ck.set j (bq x.2 200 (after s (met P S j c s g r).2.1 r)) := by cases r <;> rfl
    have ah := ze s (met P S j c s g r).2.1 r l;unfold hold;rw [e1, E3];by_cases e : j = i
    . subst e;rw [if_pos rfl, if_pos hjs, es];simp only [XQ, exists_eq_left', cy, ah, true_and]
    . have e' : ¬ i = j := λz => e z.symm;rw [if_neg e];simp [e']
inductive Ts(P:Pg):Wd->List Tc->Wd->Prop
 | nil (S:Wd):Ts P S [] S
 | cons {S S1 S2:Wd} {j:Nat} {t:Tc} {r:List Tc} (h:Ef P S j t S1) (u:Ts P S1 r S2):Ts P S (t::r) S2
def Ng(p:Pr):=(0<=p.1/\p.1<=1000)/\0<=p.2/\p.2<=1000
theorem Wk.ts(ok:P.Ok)(h:Wk P S a S2): ∀{N},eK P N S->N+a.length<=1000-> ∃ ts,Ts P S ts S2/\(a.zip (gV S.aX a)).map gS=ts.map Tc.V/\ts.length=a.length/\ ∀ t∈ts,Ng t.e:=by
 induction h with
 | nil S=>exact λ_ _=>⟨[],.nil S,rfl,rfl,λ_ m=>(nomatch m)⟩
 | @cons S S1 S2 j g l r st _ ih =>
  intro N W hN
  rw[Sb] at hN
  obtain⟨t,e,rfl⟩:=st.ef ok W
  obtain⟨ts,h1,h2,h3,h4⟩:=ih (st.ok ok W) (by omega)
  refine⟨t::ts,.cons e h1,?_,by rw[Sb,Sb,h3],λx m=>?_⟩
  . rw[gV,e.ev.2,SE,UT,R9,<- e.ct];congr 1;unfold gS zO Tc.V nG eO;rw[e.ev.1]
  . rcases Sd.mp m with rfl | m
    . have c:=W.ct _ (Se e.ev.2);have:=(RY.mp e.ev.2).1;have:=W.lc;have:=ok.many;have:=e.ev.1;unfold Ng;omega
    . exact h4 x m
def fj(S:Wd)(p:Pr):= ∃(j:Nat)(c:Int),p.1=(j)/\S.aX[j]?=fI c/\p.2 < c
def AM S m:=m= .non\/ ∃ p,m=nG p/\fj S p
structure Bs(P:Pg)(S:Wd):Prop where
 li: ∀ i l,hold S i l->LA P S l=fI (i:Int)
 bm: ∀ b,AM S (Jo P S b)
structure In(P:Pg)(pre:List Tc)(S:Wd):Prop where
 bs:Bs P S
 ok: ∀ t∈pre,sU t
 lt: ∀ t∈pre,fj S t.e
 od:pre.Pairwise λ(s t:Tc)=>s.e.1=t.e.1->s.e.2 < t.e.2
 tk: ∀ t∈pre,t.w= "take" ->(∃ f∈pre,ye t.e.1 t.e.2 t.t f=true)\/ ∃ j:Nat,t.e.1=(j:Int)/\hold S j t.t
 tt:pre.Pairwise λ(s t:Tc)=>s.w= "take" ->t.w= "take" ->s.t=t.t->s.e.1=t.e.1-> ∃ f∈pre,ye s.e.1 s.e.2 s.t f=true/\f.e.2 < t.e.2
 cc:pre.Pairwise λ(s t:Tc)=>pE s.w=true->s.w=t.w->s.t=t.t->s.m≠t.m
 cl: ∀ t∈pre,pE t.w=true-> ∃ i,t.m= .int i/\i < cn P S t.w t.t
 gm: ∀ t∈pre,t.w= "get" ->AM S t.m
theorem In.nil(b:Bs P S):In P [] S:=⟨b,λ_ m=>(nomatch m),λ_ m=>(nomatch m),.nil,λ_ m=>(nomatch m),.nil,.nil,λ_ m=>(nomatch m),λ_ m=>(nomatch m)⟩
theorem vI{α :Type}{R l}{x: α}(h:l.Pairwise R)(hx: ∀ y∈l,R y x):(l++[x]).Pairwise R:=Uz.mpr ⟨h,.cons (λ_ m=>(nomatch m)) .nil,λy m z mz=>by rw[Sf.mp mz];exact hx y m⟩
theorem jz:ye a n l f=true↔f.e.1=a/\n<=f.e.2/\f.w= "free" /\f.t=l:=by simp[ye]
section
variable{P:Pg}{S S1:Wd}{j:Nat}{t:Tc}{pre:List Tc}
theorem Ef.past(e:Ef P S j t S1)(h:fj S p):fj S1 p:=by
 obtain⟨i,c,h1,h2,h3⟩:=h;have hj:=(RY.mp e.ev.2).1;by_cases q:j=i
 . subst q;rw[e.ev.2] at h2;cases h2;exact⟨j,t.e.2+1,h1,by rw[e.ct,SV hj],by omega⟩
 . exact⟨i,c,h1,by rw[e.ct,Te q];exact h2,h3⟩
theorem Ef.Fc(e:Ef P S j t S1)(h:AM S m):AM S1 m:=by
 rcases h with h | ⟨p,h,q⟩
 . exact .inl h
 . exact .inr ⟨p,h,e.past q⟩
theorem Ef.now(e:Ef P S j t S1):fj S1 t.e:=⟨j,t.e.2+1,e.ev.1,by rw[e.ct,SV (RY.mp e.ev.2).1],by omega⟩
theorem Ef.new(e:Ef P S j t S1)(h:fj S p)(q:p.1=t.e.1):p.2 < t.e.2:=by
 obtain⟨i,c,h1,h2,h3⟩:=h;have:i=j:=by have:=e.ev.1;omega
 subst this;rw[e.ev.2] at h2;cases h2;exact h3
theorem Ef.bs(e:Ef P S j t S1)(b:Bs P S):Bs P S1:=by
 refine⟨λi l h=>?_,λx=>?_⟩
 . rw[e.lh];rcases(e.hd i l).mp h with⟨rfl,h1,h2⟩ | ⟨h1,h2⟩
   . rw[if_pos ⟨h1,h2⟩]
   . have hl:=b.li i l h1;split
     . rename_i q;have:=(e.tk q.1).1;rw[<- q.2,hl] at this;nomatch this
     . split
       . rename_i q;have:=b.li j t.t (e.fr q.1);rw[<- q.2,hl] at this;exact absurd ⟨by have:=SY this;omega,q⟩ h2
       . exact hl
 . rw[e.bx];split
   . exact .inr ⟨_,rfl,e.now⟩
   . exact e.Fc (b.bm x)
theorem In.freed(I:In P pre S)(e:Ef P S j t S1)(w:t.w= "take")(m:s∈pre)(h1:s.w= "take")(h2:s.t=t.t): ∃ f∈pre,ye s.e.1 s.e.2 s.t f=true:=by
 rcases I.tk s m h1 with h | ⟨i,_,h⟩
 . exact h
 . have:=I.bs.li i s.t h;rw[h2,(e.tk w).1] at this;nomatch this
theorem In.step(I:In P pre S)(e:Ef P S j t S1):In P (pre++[t]) S1:=by
 have mem: ∀{x:Tc},x∈pre++[t]->x∈pre\/x=t:=λm=>by simpa using m
 have inl: ∀{x:Tc},x∈pre->x∈pre++[t]:=λm=>Tq _ m;have inr:t∈pre++[t]:=by simp
 refine⟨e.bs I.bs,λx m=>?_,λx m=>?_,vI I.od λs m q=>e.new (I.lt s m) q,λx m w=>?_,?_,?_,λx m w=>?_,λx m w=>?_⟩
 . rcases mem m with m | rfl
   . exact I.ok x m
   . exact e.ok
 . rcases mem m with m | rfl
   . exact e.past (I.lt x m)
   . exact e.now
 . rcases mem m with m | rfl
   . rcases I.tk x m w with⟨f,fm,h⟩ | ⟨i,hi,h⟩
     . exact .inl ⟨f,inl fm,h⟩
     . by_cases q:i=j/\t.w= "free" /\x.t=t.t
       . have a1:t.e.1=x.e.1:=by rw[hi,q.1];exact e.ev.1
         exact .inl ⟨t,inr,jz.mpr ⟨a1,by have:=e.new (I.lt x m) a1.symm;omega,q.2.1,q.2.2.symm⟩⟩
       . exact .inr ⟨i,hi,(e.hd i x.t).mpr (.inr ⟨h,q⟩)⟩
   . exact .inr ⟨j,e.ev.1,(e.hd j _).mpr (.inl ⟨rfl,w,rfl⟩)⟩
 . refine vI (I.tt.imp λh a b c d=>let ⟨f,fm,q⟩:=h a b c d;⟨f,inl fm,q⟩) λs m h1 h2 h3 h4=>?_;obtain⟨f,fm,q⟩:=I.freed e h2 m h1 h3;exact⟨f,inl fm,q,e.new (I.lt f fm) ((jz.mp q).1.trans h4)⟩
 . refine vI I.cc λs m h1 h2 h3 h4=>?_;obtain⟨i,e1,e2⟩:=I.cl s m h1;have:=e.cm (by rw[<- h2];exact h1);rw[<- h4,e1,<- h2,<- h3] at this;have:=PV.int.inj this;omega
 . rcases mem m with m | rfl
   . obtain⟨i,e1,e2⟩:=I.cl x m w;refine⟨i,e1,?_⟩;rw[e.cx _ _ w];split<;>omega
   . refine⟨_,e.cm w,?_⟩;rw[e.cx _ _ w,if_pos ⟨rfl,rfl⟩];omega
 . rcases mem m with m | rfl
   . exact e.Fc (I.gm x m w)
   . rw[e.bm (.inl w)];exact e.Fc (I.bs.bm _)
end
theorem tB{α :Type}{p}: ∀{l:List α},l.Pairwise (λx y=> ¬ (p x=true/\p y=true))->(l.filter p).length<=1
 | [],_=>SX _
 | x::l,h=>by
  obtain⟨h1,h2⟩:=UQ.mp h;by_cases q:p x=true
  . rw[SJ q];have:=Vs.mpr λy m z=>h1 y m ⟨q,z⟩;rw[this];exact Si _
  . rw[SR q];exact tB h2
theorem lY{α :Type}(p q: α ->Bool): ∀ l:List α,(l.filter p).length=(l.filter λx=>p x&&q x).length+(l.filter λx=>p x&& !q x).length
 | []=>rfl
 | x::l=>by
  have:=lY p q l;cases e1:p x<;>cases e2:q x<;>simp[e1,e2]<;>omega
theorem filter_le{α :Type}{p q}: ∀{l:List α},(∀ x∈l,p x=true->q x=true)->(l.filter p).length<=(l.filter q).length
 | [],_=>Si _
 | x::l,h=>by
  have ih:=filter_le λy m=>h y (Sk _ m);by_cases e1:p x=true
  . rw[SJ e1,SJ (h x So e1),Sb,Sb];omega
  . rw[SR e1];by_cases e2:q x=true
    . rw[SJ e2,Sb];omega
    . rw[SR e2];exact ih
def Od(ts:List Tc):=ts.Pairwise λ(s t)=>s.e.1=t.e.1->s.e.2 < t.e.2
theorem Od.first(h:Od ts)(e:ts.find? (ye a n l)=fI f)(m:g∈ts)(q:ye a n l g=true):f.e.2<=g.e.2:=by
 obtain⟨pf,as,bs,rfl,hn⟩:=List.find?_eq_some_iff_append.mp e;rcases Ti.mp m with m | m
 . have:=hn g m;rw[q] at this;nomatch this
 . rcases Sd.mp m with rfl | m
   . exact Int.le_refl _
   . have:=(UQ.mp (Uz.mp h).2.1).1 g m;have:=this ((jz.mp pf).1.trans (jz.mp q).1.symm);omega
noncomputable def gE P S (t:Tc):=decide (t.w= "get")&&decide (t.m=Jo P S t.t)
noncomputable def live P S (pre:List Tc):=(pre.filter (gE P S)).length
section
variable{P:Pg}{S S1:Wd}{j:Nat}{t:Tc}{pre ts:List Tc}
theorem In.alone(I:In P pre S)(e:Ef P S j t S1)(od:Od ts)(sub: ∀ x∈pre,x∈ts):(pre.filter λs=>fk ts t s&& !(decide (s.w= "get" /\t.w= "put"))).length<=1:=by
 refine tB ?_;have key: ∀ s∈pre,(fk ts t s&& !(decide (s.w= "get" /\t.w= "put")))=true->s.t=t.t/\(((t.w= "get" \/t.w= "put")/\t.m=nG s.e)\/(s.w= "take" /\t.w= "take" /\t.m=kN ts s)\/(pE s.w=true/\s.w=t.w/\t.m=QP s.m)):=λs m q=>by
  unfold fk M0 at q;simp only[Sr,Tt,decide_eq_false_iff_not,decide_eq_true_eq] at q;obtain⟨⟨_,q1,q2⟩,q3⟩:=q;refine⟨q1,?_⟩;split at q2
  . rename_i c;exact .inl ⟨c.imp And.right And.right,of_decide_eq_true q2⟩
  . split at q2
    . rename_i c;exact .inr (.inl ⟨c.1,c.2,of_decide_eq_true q2⟩)
    . simp only[Sr,decide_eq_true_eq] at q2;exact .inr (.inr ⟨q2.2.1,q2.1,q2.2.2⟩)
 have all:=(I.od.and (I.tt.and I.cc))
 refine List.Pairwise.imp_of_mem (λ{s s'} m m' h ⟨q,q'⟩=>?_) all;obtain⟨h1,h2,h3⟩:=h;obtain⟨a0,a⟩:=key s m q;obtain⟨b0,b⟩:=key s' m' q';have ne:s.e≠s'.e:=λz=>by have:=h1 (by rw[z]);rw[z] at this;omega
 have fr: ∀ x∈pre,x.w= "take" ->t.w= "take" ->t.m=kN ts x->x.t=t.t-> ∃ f,ts.find? (ye x.e.1 x.e.2 x.t)=fI f/\t.m=nG f.e:=λx mx w1 w2 q r=>by
  obtain⟨f,fm,hf⟩:=I.freed e w2 mx w1 r;unfold kN at q;cases c:ts.find? _ with
  | none=>exact absurd hf (by simpa using Xy.mp c f (sub f fm))
  | some g=>rw[c] at q;exact⟨g,rfl,q⟩
 have cw:pE t.w=true-> ¬ t.w= "take" /\ ¬ (t.w= "get" \/t.w= "put"):=λc=>by
  rcases qg c with z | z | z<;>rw[z]<;>simp[aD]
 have kw:t.w= "take" -> ¬ (t.w= "get" \/t.w= "put"):=λc=>by rw[c];simp[aD]
 rcases a with⟨a1,a2⟩ | ⟨a1,a2,a3⟩ | ⟨a1,a2,a3⟩<;>rcases b with⟨b1,b2⟩ | ⟨b1,b2,b3⟩ | ⟨b1,b2,b3⟩
 . exact ne (pP.mp (a2.symm.trans b2))
 . exact kw b2 a1
 . exact(cw (by rw[<- b2];exact b1)).2 a1
 . exact kw a2 b1
 . obtain⟨f,f1,f2⟩:=fr s m a1 a2 a3 a0;obtain⟨f',g1,g2⟩:=fr s' m' b1 b2 b3 b0;have p1:=jz.mp (WY f1);have p2:=jz.mp (WY g1);have pe:=pP.mp (f2.symm.trans g2);obtain⟨g,gm,hg,lt⟩:=h2 a1 b1 (a0.trans b0.symm) (p1.1.symm.trans ((congrArg _ pe).trans p2.1));have:=od.first f1 (sub g gm) hg;have:=congrArg Prod.snd pe;omega
 . exact(cw (by rw[<- b2];exact b1)).1 a2
 . exact(cw (by rw[<- a2];exact a1)).2 b1
 . exact(cw (by rw[<- a2];exact a1)).1 b2
 . obtain⟨i,i1,_⟩:=I.cl s m a1;obtain⟨i',i2,_⟩:=I.cl s' m' b1;refine h3 a1 (a2.trans b2.symm) (a0.trans b0.symm) ?_;rw[a3,i1,i2] at b3;have:=PV.int.inj b3;rw[i1,i2];congr 1;omega
theorem In.used(I:In P pre S)(e:Ef P S j t S1):(pre.filter λs=>fk ts t s&&decide (s.w= "get" /\t.w= "put")).length+live P S1 (pre++[t])<=live P S pre+1:=by
 have lv:live P S1 (pre++[t])=(pre.filter (gE P S1)).length+(if gE P S1 t=true then 1 else 0):=by
  unfold live;cases q:gE P S1 t<;>simp[q]
 rw[lv];by_cases w:t.w= "put"
 . have l0:gE P S1 t=false:=by unfold gE;rw[w];simp[aD]
   have a1:=lY (gE P S) (λs=>decide (s.t=t.t)) pre;have a2:(pre.filter λs=>fk ts t s&&decide (s.w= "get" /\t.w= "put")).length<=(pre.filter λs=>gE P S s&&decide (s.t=t.t)).length:=filter_le λs m q=>by
    unfold fk M0 at q;simp only[Sr,decide_eq_true_eq] at q;obtain⟨⟨_,q1,q2⟩,q3,_⟩:=q;rw[if_neg (by rw[q3];simp[aD]),if_pos ⟨q3,w⟩] at q2;have:=of_decide_eq_true q2;unfold gE;rw[q3,<- this,e.bm (.inr w),q1];simp
   have a3:(pre.filter (gE P S1)).length<=(pre.filter λs=>gE P S s&& !(decide (s.t=t.t))).length:=filter_le λs m q=>by
    unfold gE at q ⊢;rw[Sr,decide_eq_true_eq,decide_eq_true_eq,e.bx] at q;obtain⟨q1,q2⟩:=q;by_cases c:s.t=t.t
    . rw[if_pos ⟨w,c⟩] at q2;rcases I.gm s m q1 with z | ⟨p,z,pp⟩
      . rw[z] at q2;nomatch q2
      . rw[z] at q2;have z2:=pP.mp q2;have:=e.new pp (by rw[z2]);rw[z2] at this;omega
    . simp[q1,q2,c]
   unfold live;rw[l0,if_neg T6];omega
 . have a2:(pre.filter λs=>fk ts t s&&decide (s.w= "get" /\t.w= "put")).length=0:=by
    rw[List.length_eq_zero_iff,Vs];intro s m q;simp[w] at q
   have a3:(pre.filter (gE P S1))=pre.filter (gE P S):=by
    refine wz λs m=>?_;unfold gE;rw[e.bx,if_neg λz=>w z.1]
   rw[a2,a3];unfold live;split<;>omega
theorem Ts.jD(u:Ts P S post S2): ∀{pre},In P pre S->Od ts->pre++post=ts->(eF (fk ts) pre post).length+live P S2 ts<=live P S pre+2*post.length/\In P ts S2:=by
 induction u with
 | nil S=>intro pre I od e;rw[SA] at e;subst e;exact⟨by rw[eF];simp,I⟩
 | @cons S S1 S2 j t r e _ ih =>
  intro pre I od he
  obtain⟨h1,h2⟩:=ih (I.step e) od (by rw[<- he,R7];rfl)
  refine⟨?_,h2⟩
  have a1:=I.alone e od λx m=>by rw[<- he];exact Tq _ m
  have a2:=I.used (ts:=ts) e
  have a3:=lY (fk ts t) (λs=>decide (s.w= "get" /\t.w= "put")) pre
  rw[eF,Sj,Sb]
  unfold tC
  rw[xn]
  omega
theorem Ts.PR(u:Ts P S post S2): ∀{pre},In P pre S->In P (pre++post) S2:=by
 induction u with
 | nil S=>intro pre I;rw[SA];exact I
 | @cons S S1 S2 j t r e _ ih=>intro pre I;have:=ih (I.step e);rw[R7] at this;exact this
theorem Ts.freed(u:Ts P S post S2): ∀{pre},In P pre S-> ∀ a(t:Tc) b,post=a++t::b->t.w= "take" -> ∀ s∈pre++a,s.w= "take" ->s.t=t.t-> ∃ f∈pre++a,ye s.e.1 s.e.2 s.t f=true:=by
 induction u with
 | nil S=>intro pre I a t b e;cases a<;>nomatch e
 | @cons S S1 S2 j t r e _ ih =>
  intro pre I a x b he w s m h1 h2
  cases a with
  | nil=>cases he;rw[SA] at m ⊢; exact I.freed e w m h1 h2
  | cons y a =>
   cases he
   have:=ih (I.step e) a x b rfl w s (by simpa using m) h1 h2
   simpa using this
end
theorem vf: ∀{post pre},q∈eF f pre post-> ∃ t∈post,q.2=t.e
 | [],_,m=>nomatch m
 | t::r,pre,m=>by
  rcases Ti.mp m with m | m
  . obtain⟨s,_,rfl⟩:=SS.mp m;exact⟨t,So,rfl⟩
  . obtain⟨x,mx,h⟩:=vf m;exact⟨x,Sk _ mx,h⟩
theorem Od.ne(h:Od ts):ts.Pairwise λ(s t)=>s.e≠t.e:=h.imp λ{a b} h z=>by have:=h (by rw[z]);rw[z] at this;omega
theorem uZ: ∀{post pre},Od (pre++post)->(eF f pre post).Nodup
 | [],_,_=> .nil
 | t::r,pre,h=>by
  have hn:=h.ne;have h1:=(Uz.mp hn).1;have h2:=(Uz.mp hn).2.1;refine U5.mpr ⟨?_,uZ (by rw[R7];exact h),λx mx y my z=>?_⟩
  . exact(h1.filter _).map _ λa b q z=>q (congrArg Prod.fst z)
  . obtain⟨s,_,rfl⟩:=SS.mp mx;obtain⟨u,mu,e⟩:=vf my;exact(UQ.mp h2).1 u mu (by rw[<- e,<- z])
theorem BH(nd:qs.Nodup):(dW qs).Pairwise ltQ:=by
 have h1:=Ul tj (λa b=>by
  have: ¬ (ltQ b a/\ltQ a b):=λ⟨x,y⟩=>pV _ (gh x y);by_cases c:ltQ b a<;>by_cases d:ltQ a b<;>simp_all) qs
 have h2:=(lQ qs).nodup_iff.mpr nd;refine(h1.and h2).imp λ{a b} z=>?_;have z1:=z.1;simp only[Tt,decide_eq_false_iff_not] at z1;rcases qK z.2 with q | q
 . exact q
 . exact absurd q z1
theorem vt(nd:qs.Nodup) p:(dW qs).filter p=dW (qs.filter p):=xf ((lQ qs).filter p) ((BH nd).filter p)
noncomputable def both(p:Pr->Bool)(q:Qr):=p q.1&&p q.2
theorem uN f: ∀ b pre c,eF f pre (b++c)=eF f pre b++eF f (pre++b) c
 | [],pre,c=>by rw[SG,eF,SG,SA]
 | t::b,pre,c=>by rw[TA,eF,eF,uN f b,R7,R7];rfl
theorem Ab{f:Tc->Tc->Bool}{p:Pr->Bool}: ∀{post pre:List Tc},(∀ x∈post,p x.e=false)->(eF f pre post).filter (both p)=[]
 | post,pre,h=>Vs.mpr λq m z=>by
  obtain⟨t,mt,e⟩:=vf m;unfold both at z;rw[e,h t mt,Xw] at z;nomatch z
theorem Fx{f:Tc->Tc->Bool}{p:Pr->Bool}: ∀{post a b:List Tc},(∀ x∈a,p x.e=false)->(∀ x∈b++post,p x.e=true)->(eF f (a++b) post).filter (both p)=eF f b post
 | [],_,_,_,_=>rfl
 | t::r,a,b,ha,hb=>by
  have ht:=hb t (by simp);have n1:(tC f t (a++b)).filter (both p)=tC f t b:=by
   unfold tC;rw[UU,SH,UU];have e1:((a.filter (f t)).map λs=>(s.e,t.e)).filter (both p)=[]:=Vs.mpr λq m z=>by
    obtain⟨s,ms,rfl⟩:=SS.mp m;unfold both at z;rw[ha s (Uu.mp ms).1] at z;nomatch z
   have e2:((b.filter (f t)).map λs=>(s.e,t.e)).filter (both p)=(b.filter (f t)).map λs=>(s.e,t.e):=List.filter_eq_self.mpr λq m=>by
    obtain⟨s,ms,rfl⟩:=SS.mp m;unfold both;rw[hb s (Tq _ (Uu.mp ms).1),ht];rfl
   rw[e1,e2,SG]
  rw[eF,eF,UU,n1,R7,Fx ha λx m=>hb x (by simpa using m)]
theorem A8{f:Tc->Tc->Bool}{p:Pr->Bool}{a b c:List Tc}(ha: ∀ x∈a,p x.e=false)(hb: ∀ x∈b,p x.e=true)(hc: ∀ x∈c,p x.e=false):(eF f [] (a++(b++c))).filter (both p)=eF f [] b:=by
 rw[uN,uN,UU,UU,Ab ha,Ab hc,SA];have:=Fx (f:=f) (b:=[]) ha (by simpa using hb);rw[SA] at this;exact this
theorem tx: ∀{post pre},(∀ a t b,post=a++t::b-> ∀ s∈pre++a,f t s=g t s)->eF f pre post=eF g pre post
 | [],_,_=>rfl
 | t::r,pre,h=>by
  have e:tC f t pre=tC g t pre:=by
   unfold tC;rw[wz λs m=>h [] t r rfl s (by simpa using m)]
  rw[eF,eF,e,tx λa x b q s m=>h (t::a) x b (by rw[q];rfl) s (by simpa using m)]
section
variable{P:Pg}{S S1:Wd}
theorem Ts.v9(u:Ts P S b S1): ∀ x∈b,∃(j:Nat)(c:Int),x.e.1=(j)/\S.aX[j]?=fI c/\c<=x.e.2:=by
 induction u with
 | nil=>intro x m;nomatch m
 | @cons S S1 S2 j t r e _ ih =>
  intro x m
  rcases Sd.mp m with rfl | m
  . exact⟨j,x.e.2,e.ev.1,e.ev.2,Int.le_refl _⟩
  . obtain⟨i,c,h1,h2,h3⟩:=ih x m;by_cases q:j=i
    . subst q;rw[e.ct,SV (RY.mp e.ev.2).1] at h2;have:=SY h2;exact⟨j,t.e.2,h1,e.ev.2,by omega⟩
    . rw[e.ct,Te q] at h2;exact⟨i,c,h1,h2,h3⟩
theorem Ts.same(u:Ts P S1 b S2)(bs:Bs P S1)(od:Od (a++(b++c))):eF (fk (a++(b++c))) [] b=eF (fk b) [] b:=by
 refine tx λx t y e s m=>?_;unfold fk M0;by_cases c3:s.w= "take" /\t.w= "take"
 . by_cases c0:s.t=t.t
   . have fr:kN (a++(b++c)) s=kN b s:=by
      obtain⟨f,fm,hf⟩:=u.freed (In.nil bs) x t y e c3.2 s (by simpa using m) c3.1 c0;have mb:s∈b:=by rw[e];exact Tq _ m
      have n1:a.find? (ye s.e.1 s.e.2 s.t)=ox:=Xy.mpr λz mz q=>by
       have q':=jz.mp q;have:=(Uz.mp od).2.2 z mz s (Tq _ mb) q'.1;omega
      unfold kN;rw[FQ,n1,FQ];cases d:b.find? _ with
      | none=>exact absurd hf (by simpa using Xy.mp d f (by rw[e];exact Tq _ fm))
      | some g=>rfl
     rw[fr]
   . rw[decide_eq_false c0];rfl
 . rw[if_neg c3,if_neg c3]
end
mutual
noncomputable def dv:PV->Vd
 | .bl b=> .bool b
 | .int i=> .int i
 | .str x=> .str x
 | .tup xs=> .tuple (C8 xs)
 | _=> .none
noncomputable def C8:List PV->List Vd
 | []=>[]
 | x::r=>dv x::C8 r
end
mutual
noncomputable def sJ:PV->Bool
 | .non=>true
 | .int _=>true
 | .str x=>TK x
 | .tup xs=>iE xs
 | _=>false
noncomputable def iE:List PV->Bool
 | []=>true
 | x::r=>sJ x&&iE r
end
mutual
theorem zU{sub:Nat->Option Vd}: ∀ v:PV,sJ v=true->ic sub v=fI (dv v)
 | .non,_=>rfl
 | .int _,_=>rfl
 | .str _,_=>rfl
 | .tup xs,h=>by rw[sJ] at h;rw[ic,uI xs h];rfl
theorem uI{sub:Nat->Option Vd}: ∀ xs:List PV,iE xs=true->bW sub xs=fI (C8 xs)
 | [],_=>rfl
 | x::r,h=>by
  rw[iE,Sr] at h;rw[bW,zU x h.1,uI r h.2];rfl
end
mutual
theorem CJ: ∀ v:PV,sJ v=true->(dv v).canLay0=true
 | .non,_=>rfl
 | .int _,_=>rfl
 | .str _,h=>h
 | .tup xs,h=>by rw[sJ] at h;rw[dv,Vj];exact uJ xs h
theorem uJ: ∀ xs:List PV,iE xs=true->Tg (C8 xs)=true
 | [],_=>rfl
 | x::r,h=>by
  rw[iE,Sr] at h;rw[C8,Tg,CJ x h.1,uJ r h.2];rfl
end
mutual
theorem DF: ∀ v:PV,sJ v=true->(dv v).depth<=rY v
 | .non,_=>Si _
 | .int _,_=>Si _
 | .str _,_=>Si _
 | .tup xs,h=>by
  rw[sJ] at h;have:=uo xs h;rw[dv,rY,Ww];omega
theorem uo: ∀ xs:List PV,iE xs=true->T9 (C8 xs)<=jW xs
 | [],_=>Si _
 | x::r,h=>by
  rw[iE,Sr] at h;have h1:=DF x h.1;have h2:=uo r h.2;rw[C8,T9,jW];omega
end
theorem xV{α :Type}{f}: ∀{l:List α},(∀ x∈l,sJ (f x)=true)->iE (l.map f)=true
 | [],_=>rfl
 | x::r,h=>by rw[R9,iE,h x So,xV λz m=>h z (Sk _ m)];rfl
theorem qB(sc:jR x y=false)(e1:dat 6 h x=fI d)(e2:dat 6 h y=fI d)(c:d.canLay0=true)(hd:d.depth<=64):eE x y h= .ok (.bl true) h:=by
 have:alike x y h=fI true:=by
  unfold alike;rw[sc,e1,e2];refine(if_neg T6).trans ((if_pos ⟨c,c,by rw[Nat.min_self];exact hd⟩).trans ?_);rw[SeqAt.eqv_refl d c]
 unfold eE;rw[this]
theorem HN(k:iE xs=true)(hd:jW xs<=60):eE (.tup xs) (.tup xs) h= .ok (.bl true) h:=by
 have k':sJ (.tup xs)=true:=by exact k
 refine qB rfl (zU _ k') (zU _ k') (CJ _ k') ?_;have:=DF _ k';rw[rY] at this;omega
noncomputable def nV(cs ms:List Int)(p:Pr):=decide ((cs[p.1.toNat]?).getD 0<=p.2)&&decide (p.2 < (cs[p.1.toNat]?).getD 0+(ms[p.1.toNat]?).getD 0)
noncomputable def PG:=(eB bG (ae (hW 1 (iC (aa 3)) (gN 8) (aF (ao eE (eX 8 0) (aa 7))) (aa 8)) aj))
noncomputable def cnt(a:List (Nat × PV × PV))(j:Nat):Int:=((a.filter λz=>decide (z.1=j)).length)
theorem zv.aX(h:zv P S j g l S1): ∃ c,S.aX[j]?=fI c/\S1.aX=S.aX.set j (c+1):=by
 obtain⟨x,s,c,r,ex,es,ec,er,hw,hg,eS,el⟩:=h.at_;refine⟨c,ec,?_⟩;rw[eS];cases r<;>rfl
theorem Wk.aX(h:Wk P S a S2): ∀ j,S2.aX[j]?=(S.aX[j]?).map (· +cnt a j):=by
 induction h with
 | nil S=>intro j;cases S.aX[j]?<;>simp[cnt]
 | @cons S S1 S2 i g l r st _ ih =>
  intro j
  obtain⟨c,ec,e1⟩:=st.aX
  rw[ih j,e1,E3]
  unfold cnt
  by_cases q:i=j
  . subst q;have:=(RY.mp ec).1;rw[if_pos rfl,if_pos this,ec,SJ (by simp),Sb];simp only[UC,XQ];omega
  . rw[if_neg q,SR (by simpa using q)]
theorem D5: ∀ es:List Qr,iE (es.map cP)=true
 | []=>rfl
 | q::r=>by rw[R9,iE,D5 r];rfl
theorem Jx: ∀ es:List Qr,jW (es.map cP)<=2
 | []=>SX _
 | q::r=>by have:=Jx r;exact Nat.max_le.mpr ⟨show rY _<=2 from Si 2,this⟩
section
variable{pg:Tb}(T:bH pg)
include T
theorem tZ k h {cs} (hm:h[m]?=fI (.lst (ms.map PV.int))) (lc:cs.length=ms.length) (h0:0<=p.1) (h9:p.1.toNat < cs.length):run pg (k+1) "_law_inside" [.tup (cs.map PV.int),.ref m,nG p] h= .ok (.bl (nV cs ms p)) h:=by
 obtain⟨a,b⟩:=p;obtain⟨j,rfl⟩:=Tj h0;have h9':j < cs.length:=by simpa using h9
 have e1:=R6 h9';have e2:ms[j]?=fI _:=R6 (by omega);generalize cs[j]=x at e1;generalize (ms[j]'(by omega))=y at e2;have p0:aE (nG ((j:Int),b)) _ h= .ok _ h:=kI;have p1:aE (nG ((j:Int),b)) _ h= .ok _ h:=ig;have i1:aE _ _ h= .ok (.int x) h:=jX (ba e1);have i2:aE (.ref m) (.int (j)) h= .ok (.int y) h:=by rw[oM,hm,ph,ba e2];rfl
 have eb:nV cs ms ((j),b)=(decide (x<=b)&&decide (b < x+y)):=by unfold nV;simp only[SQ,e1,e2,SE]
 rw[run_eq T.sy rfl,eb];by_cases c1:x<=b
 . by_cases c2:b < x+y
   . simp? [cI,fg,p0,p1,i1,i2,c1,c2,Va]
   . simp? [cI,fg,p0,p1,i1,i2,c1,c2,Xw]
 . simp? [cI,fg,p0,p1,i1,c1,Wy]
theorem FO k (hb:b.length<=100) e0 e1 e2 e4 e5 e6 xs0: ∀(js:List Nat) ys h Y,ys.length+js.length<=1000 ->
  ∃ Z ,dU ⟨ox,xs0⟩ (aM 1 (gN 7) aK PG (run pg k) [e0,e1,e2,fI (.tup (b.map bz)),e4,e5,e6]) (js.map λi:Nat=>PV.int (0+(i))) ys (h++Y)= .ok (ys++js.map λj=>PV.int (cnt b j)) (h++Z):=by
 intro js
 induction js with
 | nil=>intro ys h Y _;exact⟨Y,by rw[SF,SF,SA,_P.dU,if_pos (show kC.ir _ _=true from rfl)]⟩
 | cons j js ih =>
  intro ys h Y hy
  rw[Sb] at hy
  have iz:(0:Int)+(j:Int)=(j:Int):=Vr _
  have hz:ys.length < sizeLine:=SK (show ys.length < 1001 by omega) (by decide)
  obtain⟨Z,i1⟩:=ih (ys++[.int _]) h _ (by rw[Sj];simp;omega)
  refine⟨Z,?_⟩
  have lc: ∀ E ,E=[e0,e1,e2,fI (.tup (b.map bz)),e4,e5,e6,fI (.int (j))]->dU ⟨ox,b.map bz⟩ (aM 1 (gN 8) (aF (ao eE (eX 8 0) (aa 7))) (aa 8) (run pg k) E) (b.map bz) [] (h++Y)= .ok ((b.filter λz=>decide (z.1=j)).map bz) (h++Y):=by
   rintro _ rfl;refine(cM rfl b [] (f:=λz=>if decide (z.1=j)=true then fI (bz z) else ox) (λz m=>?_) (by simp;omega)).trans ?_
   . by_cases c:z.1=j
     . have c':((z.1))=(j):=by omega
       simp? [bz,eO,c,c']
     . have c': ¬ ((z.1))=(j:Int):=by omega
       simp? [bz,eO,c,c']
   . rw[SG,<- V0,Xx];congr 2
     funext z
     by_cases c:z.1=j
     . simp[c,Xd]
     . simp[c,Xd]
  have st:aM 1 (gN 7) aK PG (run pg k) [e0,e1,e2,fI (.tup (b.map bz)),e4,e5,e6] (.int (j)) (h++Y)= .ok (fI (.int (cnt b j))) (h++(Y++[.lst ((b.filter λz=>decide (z.1=j)).map bz)])):=by
   have l1:=lc _ rfl;have ln:bG [.ref (h++Y).length] ((h++Y)++[.lst ((b.filter λz=>decide (z.1=j)).map bz)])= .ok (.int (cnt b j)) ((h++Y)++[.lst ((b.filter λz=>decide (z.1=j)).map bz)]):=by
    rw[qP,aT,lx,xn];rfl
   rw[<- R7];generalize h++Y=J at l1 ln;simp? [PG,l1,↓ln]
  rw[R9,_P.dU,if_pos ⟨show kC.ir _ _=true from rfl,hz⟩,iz,st,d9]
  refine i1.trans ?_
  rw[R9,R7]
  rfl
theorem xU k h {P:Pg} {b} (hb:b.length<=100) (lc:S.aX.length<=100) {qs:List Qr} (lq:qs.length<=1000) (hq: ∀ q∈qs,(0<=q.1.1/\q.1.1.toNat < S.aX.length)/\0<=q.2.1/\q.2.1.toNat < S.aX.length)
  (nd: ∀ g,run pg (k+1) "needs" [P.v,az S,.tup (b.map bz)] g= .ok (.tup ((qs.filter (both (nV S.aX ((S6 S.aX.length).map (cnt b))))).map cP)) g) :
  run pg (k+2) "_law_is_piece" [P.v,az S,.tup (qs.map cP),.tup (b.map bz)] h= .ok (.bl true) h:=by
 let ms:=(S6 S.aX.length).map (cnt b)
 have lm:S.aX.length=ms.length:=by show _=((S6 _).map _).length;simp
 have i0: ∀ g,aE (az S) _ g= .ok _ g:=λg=>kI;obtain⟨Z,lp⟩:=FO T (k+1) hb (fI P.v) (fI (az S)) (fI (.tup (qs.map cP))) (fI (.tup (S.aX.map PV.int))) ox ox (aJ 0 S.aX.length) (S6 S.aX.length) [] h [] (by simp;omega);rw[SA] at lp;have em:((S6 S.aX.length).map λj=>PV.int (cnt b j))=ms.map PV.int:=by rw[Tf];rfl
 rw[em] at lp;obtain⟨J,hJ⟩: ∃ J,J=h++Z:=⟨_,rfl⟩
 rw[<- hJ] at lp;have hn: ∀ X,(J++PO.lst _::X)[J.length]?=fI (.lst (ms.map PV.int)):=λX=>aT;have lf:dU ⟨ox,qs.map cP⟩ (aM 1 (gN 7) (iq (aF (ai "_law_inside" (a3 (aa 4) (aa 5) (eX 7 0)))) (aF (ai "_law_inside" (a3 (aa 4) (aa 5) (eX 7 1))))) (aa 7) (run pg (k+1)) [fI P.v,fI (az S),fI (.tup (qs.map cP)),fI (.tup (b.map bz)),fI (.tup (S.aX.map PV.int)),fI (.ref J.length),ox]) (qs.map cP) [] (J++[PO.lst (ms.map PV.int)])= .ok ((qs.filter (both (nV S.aX ms))).map cP) (J++[PO.lst (ms.map PV.int)]):=by
  refine(cM rfl qs [] (f:=λq=>if both (nV S.aX ms) q=true then fI (cP q) else ox) (λq m=>?_) (by simp;omega)).trans ?_
  . obtain⟨⟨a1,a2⟩,a3,a4⟩:=hq q m;have n1:=tZ T k _ (hn []) lm a1 a2;have n2:=tZ T k _ (hn []) lm a3 a4;have q0: ∀ g,aE (cP q) _ g= .ok _ g:=λg=>kI;have q1: ∀ g,aE (cP q) _ g= .ok _ g:=λg=>ig;unfold both;cases c1:nV S.aX ms q.1 with
    | true =>
     rw[c1] at n1
     cases c2:nV S.aX ms q.2 with
     | true =>
      rw[c2] at n2
      simp? [q0,q1,n1,n2,Va]
     | false =>
      rw[c2] at n2
      simp? [q0,q1,n1,n2,Xw]
    | false =>
     rw[c1] at n1
     simp? [q0,n1,Wy]
  . rw[SG,<- V0,Xx];congr 2
    funext q
    cases e:both _ q<;>simp[Xd,e]
 let fs:=qs.filter (both (nV S.aX ms))
 have tl:Xf ((S.aX.map PV.int).length)=S.aX.length:=by rw[SQ,xn]
 have lp':dU _ _ (aJ 0 _) [] h= .ok _ J:=lp;have eq: ∀ g,eE _ _ g= .ok _ g:=λg=>HN (D5 fs) (Sx (Jx fs) (by decide));have tu:aQ [.ref (J.length+(0+1))] (J++[PO.lst (ms.map PV.int),.lst (fs.map cP)])= .ok (.tup (fs.map cP)) (J++[PO.lst (ms.map PV.int),.lst (fs.map cP)]):=by rw[jb,aP];exact gB
 have lf':dU _ _ _ [] _= .ok (fs.map cP) _:=lf;have nd': ∀ g,run pg _ _ _ g= .ok (.tup (fs.map cP)) g:=nd;unfold PG at lp';rw[run_eq T.pG rfl];simp? [dw,jB,i0,tl,lp',lf',nd',tu,eq];rw[hJ,R7];exact bj rfl
end
theorem vd(w:Wk P S a S1) b:(a++b).zip (gV S.aX (a++b))=a.zip (gV S.aX a)++b.zip (gV S1.aX b):=by
 induction w with
 | nil=>rfl
 | @cons S S1 S2 j g l r st _ ih =>
  obtain⟨c,e1,e2⟩:=st.aX
  rw[TA,gV,gV,e1,SE,UT,UT,<- e2,ih,TA]
theorem Ol{ b:Tc}(h:a.V=b.V):a=b:=by
 obtain⟨⟨b1,b2⟩,b3,b4,b5,b6⟩:=b;simp only[Tc.V,nG,PV.tup.injEq,WV,PV.int.injEq,PV.str.injEq,and_true] at h;obtain⟨⟨rfl,rfl⟩,rfl,rfl,rfl,rfl⟩:=h;rfl
theorem KH{ b:List Tc}(h:a.map Tc.V=b.map Tc.V):a=b:=(List.map_inj_right λ_ _=>Ol).mp h
section
variable{P:Pg}{S0 S1 S2 S3:Wd}{a b c:List (Nat × PV × PV)}
theorem Eo(ok:P.Ok)(W0:eK P 0 S0)(bs:Bs P S0)(wa:Wk P S0 a S1)(wb:Wk P S1 b S2)(wc:Wk P S2 c S3)(hl:(a++(b++c)).length<=30)(u:Ts P S0 ts S3)(ht:((a++(b++c)).zip (gV S0.aX (a++(b++c)))).map gS=ts.map Tc.V) :
  ∃ tb,Ts P S1 tb S2/\Bs P S1/\(b.zip (gV S1.aX b)).map gS=tb.map Tc.V/\tb.length=b.length/\(∀ t∈tb,sU t)/\(eF (fk tb) [] tb).length < 64/\(eF (fk tb) [] tb).Nodup/\dW (eF (fk tb) [] tb)=(dW (eF (fk ts) [] ts)).filter (both (nV S1.aX ((S6 S1.aX.length).map (cnt b)))):=by
 rw[Sj,Sj] at hl;have W1:=wa.ok ok W0;have W2:=wb.ok ok W1;obtain⟨A,ua,ea,la,_⟩:=wa.ts ok W0 (by omega);obtain⟨B,ub,eb,lb,_⟩:=wb.ts ok W1 (by omega);obtain⟨C,uc,ec,lc,_⟩:=wc.ts ok W2 (by omega);have et:ts=A++(B++C):=KH (by rw[<- ht,vd wa,vd wb,SH,SH,ea,eb,ec,SH,SH]);subst et;have Ia:=ua.PR (In.nil bs);rw[SG] at Ia;have I:=u.PR (In.nil bs);rw[SG] at I;have od:=I.od;have odB:=((Uz.mp od).2.1.sublist (List.sublist_append_left _ _))
 have IB:=ub.PR (In.nil Ia.bs);obtain⟨f1,_⟩:=ub.jD (In.nil Ia.bs) odB rfl;have hb: ∀(j:Nat)(x:Int),S1.aX[j]?=fI x->S2.aX[j]?=fI _/\((S6 _).map _)[j]?=fI (cnt b j):=λj x e=>by
  refine⟨by rw[wb.aX j,e];rfl,?_⟩;rw[Sq,W7 (RY.mp e).1];rfl
 have ins: ∀(j:Nat)(x:Int)(p:Pr),p.1=(j:Int)->S1.aX[j]?=fI x->nV S1.aX ((S6 _).map _) p=(decide (x<=p.2)&&decide (p.2 < x+cnt b j)):=λj x p h e=>by
  unfold nV;rw[h,SQ,e,(hb j x e).2];rfl
 have pc:=A8 (f:=fk (A++(B++C))) (p:=nV S1.aX _) (λx m=>by
  obtain⟨j,y,h1,h2,h3⟩:=Ia.lt x m;rw[ins j y _ h1 h2,decide_eq_false (by omega)];rfl) (λx m=>by
  obtain⟨j,y,h1,h2,h3⟩:=ub.v9 x m;obtain⟨i,z,g1,g2,g3⟩:=IB.lt x m;have:i=j:=by omega
  subst this;rw[(hb i y h2).1] at g2;have:=SY g2;rw[ins i y _ h1 h2,decide_eq_true h3,decide_eq_true (by omega)];rfl) (λx m=>by
  obtain⟨j,y,h1,h2,h3⟩:=uc.v9 x m;have hj:j < S1.aX.length:=by
   have:=(RY.mp h2).1;rw[W2.lc] at this;rw[W1.lc];exact this
  have e1:=R6 hj;rw[(hb j _ e1).1] at h2;have:=SY h2;rw[ins j _ _ h1 e1];exact Bool.and_eq_false_iff.mpr (.inr (decide_eq_false (by omega))))
 rw[ub.same Ia.bs od] at pc;have nd:(eF (fk (A++(B++C))) [] (A++(B++C))).Nodup:=uZ od;refine⟨B,ub,Ia.bs,eb,lb,IB.ok,?_,uZ odB,?_⟩
 . have:live P S1 []=0:=rfl;omega
 . rw[vt nd,pc]
end
theorem FY a b j:vL (a++b) j=vL a j++vL b j:=List.filterMap_append
theorem DT P t a b:dB P t (a++b)=dB P t a++dB P t b:=by
 unfold dB;split
 . exact UU ..
 . rfl
theorem wI P t a:(dB P t a).length<=a.length:=by
 unfold dB;split
 . exact VA ..
 . exact SX _
abbrev LL(h:PH):List Nat->List (List PV)->Prop:=UX λd xs=>h[d]?=fI (.lst xs)
theorem LL.app(l:LL h ds xss) g:LL (h++g) ds xss:=Paired.zB l λ_ _ e=>(aq (aC e)).trans e
theorem LL.snoc: ∀{ds xss d xs},LL h ds xss->h[d]?=fI (.lst xs)->LL h (ds++[d]) (xss++[xs])
 | [],[],_,_,.nil,e=> .cons e .nil
 | _::_,_::_,_,_,.cons a t,e=> .cons a (LL.snoc t e)
theorem LL.get: ∀{ds xss j},LL h ds xss->j < ds.length-> ∃ d xs,ds[j]?=fI d/\xss[j]?=fI xs/\h[d]?=fI (.lst xs)
 | _,_,0,.cons a t,_=>⟨_,_,rfl,rfl,a⟩
 | _,_,j+1,.cons a t,hj=>LL.get (j:=j) t (by simpa using hj)
theorem LL.dat: ∀{ds xss},LL h ds xss->(∀ xs∈xss,iE xs=true)->bW (λj=>_P.dat (n+1) h (.ref j)) (ds.map PV.ref)=fI (xss.map λxs=> .list (C8 xs))
 | _,_,.nil,_=>rfl
 | d::ds,xs::xss,.cons a t,ok=>by
  have e:ic (λj=>_P.dat (n+1) h (.ref j)) (PV.ref d)=fI (.list (C8 xs)):=by
   unfold _P.dat;simp only[ic,a,uI xs (ok xs So),UC]
  rw[R9,bW,e,LL.dat t λy m=>ok y (Sk _ m)];rfl
theorem AS: ∀{xss:List (List PV)},(∀ xs∈xss,iE xs=true)->Tg (xss.map λxs=>Vk (C8 xs))=true
 | [],_=>rfl
 | xs::r,h=>by rw[R9,Tg,Vj,uJ xs (h xs So),AS λy m=>h y (Sk _ m)];rfl
theorem Au: ∀{xss:List (List PV)},(∀ xs∈xss,iE xs=true/\jW xs<=50)->T9 (xss.map λxs=>Vk (C8 xs))<=51
 | [],_=>SX _
 | xs::r,h=>by
  obtain⟨h1,h2⟩:=h xs So;have h3:=uo xs h1;have h4:=Au λy m=>h y (Sk _ m);rw[R9,T9,Ww];exact Nat.max_le.mpr ⟨by omega,h4⟩
theorem NW(e1:h[n]?=fI (.lst (ds.map PV.ref)))(e2:h[m]?=fI (.lst (es.map PV.ref)))(l1:LL h ds xss)(l2:LL h es xss)(ok: ∀ xs∈xss,iE xs=true/\jW xs<=50):eE (.ref n) (.ref m) h= .ok (.bl true) h:=by
 have ok':=λxs m=>(ok xs m).1;refine qB (d:= .list _) rfl ?_ ?_ (by exact AS ok') (by rw[Ww];have:=Au ok;omega)
 . unfold _P.dat;simp only[ic,e1,l1.dat ok',UC]
 . unfold _P.dat;simp only[ic,e2,l2.dat ok',UC]
theorem LQ(h:IZ m):sJ m=true/\rY m<=1:=by
 rcases h with rfl | ⟨i,rfl⟩ | ⟨p,rfl⟩
 . exact⟨rfl,SX _⟩
 . exact⟨rfl,SX _⟩
 . exact⟨rfl,Si 1⟩
theorem zv.ER(ok:P.Ok)(W:eK P N S)(h:zv P S j g l S1):sJ l=true/\rY l<=2:=by
 obtain⟨t,e,el⟩:=h.ef ok W;obtain⟨x,s,c,r,ex,es,ec,er,hw,hg,_,el2⟩:=h.at_;have hv:sJ t.v=true/\rY t.v<=0:=by
  have q:=el.symm.trans el2;unfold c7 at q;simp only[PV.tup.injEq,WV] at q;rw[q.2.2.1];have gs:sJ g=true/\rY g<=0:=by
   cases e:dA r with
   | true=>obtain⟨i,rfl,_⟩:=hg.1 e;exact⟨rfl,Si _⟩
   | false=>rw[hg.2 e];exact⟨rfl,Si _⟩
  cases r<;>first | exact gs | exact⟨rfl,Si _⟩
 obtain⟨m1,m2⟩:=LQ e.ok.m;obtain⟨v1,v2⟩:=hv;have w1:sJ (.str t.w)=true:=e.ok.sw;have t1:sJ (.str t.t)=true:=e.ok.st;rw[el];refine⟨by simp only[sJ,iE,m1,v1];rw[sJ] at w1 t1;rw[w1,t1];rfl,?_⟩;simp only[rY,jW];omega
theorem Wk.ER(ok:P.Ok)(h:Wk P S a S2): ∀{N},eK P N S-> ∀ z∈a,sJ z.2.2=true/\rY z.2.2<=2:=by
 induction h with
 | nil=>intro N _ z m;nomatch m
 | cons st _ ih =>
  intro N W z m
  rcases Sd.mp m with rfl | m
  . exact st.ER ok W
  . exact ih (st.ok ok W) z m
theorem Ee{a:List (Nat × PV × PV)}(h: ∀ z∈a,sJ z.2.2=true/\rY z.2.2<=2) ns:iE ((dB P t (a.zip ns)).map gS)=true/\jW ((dB P t (a.zip ns)).map gS)<=50:=by
 have mem: ∀ z∈dB P t _,sJ _=true/\rY _<=2:=λz m=>by
  have m':z∈a.zip ns:=by
   unfold dB at m;split at m
   . exact(Uu.mp m).1
   . nomatch m
  exact h z.1 (V4 m').1
 refine⟨xV λz m=>?_,Sx (vy (c:=3) λz m=>?_) (by decide)⟩
 . have:=(mem z m).1;unfold gS zO eO;simp only[sJ,iE,this,Va]
 . have:=(mem z m).2;unfold gS zO eO;simp only[rY,jW];omega
theorem wu: ∀{post pre},q∈eF f pre post->(∃ s∈pre++post,q.1=s.e)/\ ∃ t∈pre++post,q.2=t.e
 | [],_,m=>nomatch m
 | t::r,pre,m=>by
  rcases Ti.mp m with m | m
  . obtain⟨s,ms,rfl⟩:=SS.mp m;exact⟨⟨s,Tq _ ((Uu.mp ms).1),rfl⟩,t,by simp,rfl⟩
  . have:=wu m;rw[R7] at this;exact this
noncomputable def Nr:=(ao aV (ao aE (aa 15) (aa 18)) (ai "history" (ae (aa 2) (ae (aa 12) (ae (aa 16) (ae (ao aE (aa 10) (aa 18)) aj))))))
noncomputable def kD P (ns:List Str) (L:List ((Nat × PV × PV) × Int)):=ns.map λt=>(dB P t L).map gS
theorem vN:(kD P ns L).length=ns.length:=by unfold kD;rw[xn]
section
variable{pg:Tb}(T:bH pg)
include T
theorem G4 k h (ok:P.Ok) (W:eK P N S) (hN:N+b.length<=60) (w:Wk P S b S2) (hl:L.length<=1000)
  (hnm:h[nm]?=fI (.lst (ns.map PV.str))) (hd:h[d]?=fI (.lst (ds.map PV.ref))) (ll:LL h ds (kD P ns L)) (ld:ds.length=ns.length) (e0 e1 e3 e4 e5 e6 e7 e8 e9 e11 e13 e14 e17) (xs0) :
  ∀ n m rs Y,m+n=ns.length->rs.length+n<=1000->LL (h++Y) rs ((kD P ns (L++b.zip (gV S.aX b))).take m) ->
  ∃(Z:PH)(rs':List Nat),dU ⟨ox,xs0⟩ (aM 1 (gN 18) aK Nr (run pg (k+17)) [e0,e1,fI P.v,e3,e4,e5,e6,e7,e8,e9,fI (.ref nm),e11,fI (az S),e13,e14,fI (.ref d),fI (.tup (b.map bz)),e17]) ((XO m n).map λi:Nat=>PV.int (0+(i))) (rs.map PV.ref) (h++Y)= .ok (rs'.map PV.ref) (h++Z)/\LL (h++Z) rs' (kD P ns (L++b.zip (gV S.aX b))):=by
 intro n
 induction n with
 | zero =>
  intro m rs Y hm _ l
  rw[Wi (by rw[vN];omega)] at l
  exact⟨Y,rs,by rw[List.range'_zero,SF,_P.dU,if_pos (show kC.ir _ _=true from rfl)],l⟩
 | succ n ih =>
  intro m rs Y hm hr l
  have hm':m < ns.length:=by omega
  have e1':=R6 hm'
  generalize ns[m]=t at e1'
  have iz:(0:Int)+(m:Int)=(m:Int):=Vr _
  obtain⟨dk,xs,g1,g2,g3⟩:=ll.get (j:=m) (by omega)
  have ex:xs=(dB P t L).map gS:=by
   unfold kD at g2;rw[Sq,e1'] at g2;exact(SY g2).symm
  obtain⟨q,X,hx,hi⟩:=qW T k _ ok W hN w t
  have l1:((dB P t L).map gS).length<=1000:=by rw[xn];exact Sx (wI ..) hl
  have l2:((dB P t (b.zip (gV S.aX b))).map gS).length<=1000:=by rw[xn];refine Sx (wI ..) ?_;rw[V5];omega
  let K:=(h++Y)++X
  have a1:K[dk]?=fI (.lst ((dB P t L).map gS)):=by
   show((h++Y)++X)[dk]?=_;rw[R7,aq (aC g3),g3,ex]
  have ad:=mK a1 hx (by omega)
  rw[<- SH,<- DT] at ad
  obtain⟨v,hv⟩: ∃ v,v=K.length:=⟨_,rfl⟩
  rw[<- hv] at ad
  have e2':(kD P ns (L++b.zip (gV S.aX b)))[m]?=fI ((dB P t (L++b.zip (gV S.aX b))).map gS):=by unfold kD;rw[Sq,e1'];rfl
  have fin:K++[PO.lst ((dB P t (L++b.zip (gV S.aX b))).map gS)]=h++(Y++X++[PO.lst ((dB P t (L++b.zip (gV S.aX b))).map gS)]):=by rw[R7,R7,R7]
  have ll2:LL (h++(Y++X++[PO.lst ((dB P t (L++b.zip (gV S.aX b))).map gS)])) (rs++[v]) ((kD P ns (L++b.zip (gV S.aX b))).take (m+1)):=by
   rw[List.take_succ,e2',<- fin];refine LL.snoc ?_ (by rw[hv];exact aT);exact(l.app X).app _
  obtain⟨Z,rs',i1,i2⟩:=ih _ _ _ (by omega) (by simp;omega) ll2
  refine⟨Z,rs',?_,i2⟩
  have x10: ∀ J,aE _ _ ((h++Y)++J)= .ok _ ((h++Y)++J):=λJ=>by rw[oM,R7,aq (aC hnm),hnm,ph,ba e1'];rfl
  have x10':=x10 []
  rw[SA] at x10'
  have x15:aE (.ref d) (.int (m)) (h++Y)= .ok (.ref dk) (h++Y):=by rw[oM,aq (aC hd),hd,ph,ba g1];rfl
  have hi':run pg _ _ _ _= .ok _ K:=hi
  have st:aM 1 (gN 18) aK Nr (run pg (k+17)) [e0,e1,fI P.v,e3,e4,e5,e6,e7,e8,e9,fI (.ref nm),e11,fI (az S),e13,e14,fI (.ref d),fI (.tup (b.map bz)),e17] (.int (m)) (h++Y)= .ok (fI (.ref v)) (h++(Y++X++[PO.lst ((dB P t (L++b.zip (gV S.aX b))).map gS)])):=by
   rw[<- fin];generalize (h++Y).length+q=z at hi' ad;simp? [Nr,x10',x15,hi',ad]
  have hz:(rs.map PV.ref).length < sizeLine:=by rw[xn];exact SK (show rs.length < 1001 by omega) (by decide)
  rw[YD,R9,_P.dU,if_pos ⟨show kC.ir _ _=true from rfl,hz⟩,iz,st,d9]
  have:=i1
  rw[SH] at this
  exact this
theorem MX k h (ok:P.Ok) (W:eK P N S) (hN:N+a.length<=60) (w:Wk P S a S2) {ns0:List Str} (hnm:h[nm]?=fI (.lst (ns0.map PV.str))) e0 e1 e4 e5 e7 e8 e9 e10 e11 e12 e13 e14 e15 e16 e17 :
  ∀ ns rs yss Y,rs.length+ns.length<=1000->LL (h++Y) rs yss ->
  ∃(Z:PH)(rs':List Nat),dU ⟨fI nm,ns0.map PV.str⟩ (aM 1 (gN 18) aK (ai "history" (ae (aa 2) (a3 (aa 6) (aa 3) (aa 18)))) (run pg (k+17)) [e0,e1,fI P.v,fI (.tup (a.map bz)),e4,e5,fI (az S),e7,e8,e9,e10,e11,e12,e13,e14,e15,e16,e17]) (ns.map PV.str) (rs.map PV.ref) (h++Y)= .ok (rs'.map PV.ref) (h++Z)/\LL (h++Z) rs' (yss++kD P ns (a.zip (gV S.aX a))):=by
 intro ns
 induction ns with
 | nil=>intro rs yss Y _ l;exact⟨Y,rs,by rw[SF,_P.dU,if_pos (bE ((aq (aC hnm)).trans hnm))],by unfold kD;rw[SF,SA];exact l⟩
 | cons t ns ih =>
  intro rs yss Y hr l
  rw[Sb] at hr
  obtain⟨q,X,hx,hi⟩:=qW T k _ ok W hN w t
  have ll2:LL (h++(Y++X)) (rs++[(h++Y).length+q]) (yss++[(dB P t (a.zip (gV S.aX a))).map gS]):=by
   rw[<- R7];exact(l.app X).snoc hx
  obtain⟨Z,rs',i1,i2⟩:=ih _ _ _ (by simp;omega) ll2
  refine⟨Z,rs',?_,by rw[R7] at i2;exact i2⟩
  have hi':run pg (k+17) "history" [P.v,az S,.tup (a.map bz),.str t] (h++Y)= .ok (.ref ((h++Y).length+q)) (h++(Y++X)):=by rw[<- R7];exact hi
  have fi:kC.ir _ (h++Y)=true:=bE ((aq (aC hnm)).trans hnm)
  have hz:(rs.map PV.ref).length < sizeLine:=by rw[xn];exact SK (show rs.length < 1001 by omega) (by decide)
  have st:aM 1 (gN 18) aK (ai "history" (ae (aa 2) (a3 (aa 6) (aa 3) (aa 18)))) (run pg (k+17)) [e0,e1,fI P.v,fI (.tup (a.map bz)),e4,e5,fI (az S),e7,e8,e9,e10,e11,e12,e13,e14,e15,e16,e17] (.str t) (h++Y)= .ok (fI (.ref ((h++Y).length+q))) (h++(Y++X)):=by
   generalize h++Y=J at hi';simp? [hi']
  rw[R9,_P.dU,if_pos ⟨fi,hz⟩,st]
  have:=i1
  rw[SH] at this
  exact this
end
noncomputable def PB:=(ag (bS (uW (aF (ai "_law_is_piece" (ae (aa 2) (a3 (aa 12) (aa 9) (aa 16)))))) (aA (eC (.bl false))) cD)
  (ag (ak (ai "tables_of" (a3 (aa 2) (aa 12) (aa 16))) (gN 11))
  (ag (ak (hW 1 (cY (ae (eB bG (a1 (aa 14))) aj)) (gN 18) aK (ao aV (ao aE (aa 14) (aa 18)) (ao aE (aa 11) (aa 18)))) (gN 14))
  (ag (ak (hW 1 (cY (ae (eB bG (a1 (aa 10))) aj)) (gN 18) aK Nr) (gN 15))
  (ag (ak (ai "walked" (a3 (aa 2) (aa 12) (aa 16))) (gT 2 (ax (gN 12) (ax (gN 17) bN))))
  (ak (ao aV (aa 13) (aa 17)) (gN 13)))))))
structure Qb(P:Pg)(ns:List Str)(S0:Wd)(a:List (Nat × PV × PV))(H:PH)(nm t d:Nat):Prop where
 nm:H[nm]?=fI (.lst (ns.map PV.str))
 tb:H[t]?=fI (.lst (kH P a))
 td: ∃ ds:List Nat,H[d]?=fI (.lst (ds.map PV.ref))/\LL H ds (kD P ns (a.zip (gV S0.aX a)))
theorem LL.len(l:LL h ds xss):ds.length=xss.length:=Vz l
theorem Jf(hj:j < P.hs.length):(kH P a)[j]?=fI (.tup (vL a j)):=by
 unfold kH;rw[Sq,W7 hj];rfl
section
variable {pg:Tb} (T:bH pg)
include T
theorem nX H (ok : P.Ok) (W0 : eK P 0 S0) (bs : Bs P S0) (wa : Wk P S0 a S) (wb : Wk P S b S1) (wc : Wk P S1 c S3) (hl : (a ++ (b ++ c)).length <= 30)
     (u : Ts P S0 ts S3) (ht : ((a ++ (b ++ c)).zip (gV S0.aX (a ++ (b ++ c)))).map gS = ts.map Tc.V) (lq : (eF (fk ts) [] ts).length < 64) (ev : ∀ t ∈ ts, Ng t.e) (eh : ∀ t ∈ ts, 0 <= t.e.1 /\ t.e.1.toNat < P.hs.length)
     (ln : ns.length <= 100) (I : Qb P ns S0 a H nm t d) (e0 e1 e3 e4 e5 e6 e7 e8 e11 e16 e17) :
    ∃ (Y : PH) (t' d' : Nat), Qb P ns S0 (a ++ b) (H ++ Y) nm t' d' /\ aW (gN 16) PB (run pg 30) (.tup (b.map bz)) [e0, e1, fI P.v, e3, e4, e5, e6, e7, e8, fI (.tup ((dW (eF (fk ts) [] ts)).map cP)), fI (.ref nm), e11, fI (az S), fI (.tup (a.map cJ)), fI (.ref t), fI (.ref d), e16, e17] H =
      .ok (.nx [e0, e1, fI P.v, e3, e4, e5, e6, e7, e8, fI (.tup ((dW (eF (fk ts) [] ts)).map cP)), fI (.ref nm), fI (.tup (kH P b)), fI (az S1), fI (.tup ((a ++ b).map cJ)), fI (.ref t'), fI (.ref d'), fI (.tup (b.map bz)), fI (.tup (b.map cJ))]) (H ++ Y) := by
  have hm := ok.many;obtain ⟨tb, ub, bs1, eb, lb, okb, l64, ndb, Po⟩ := Eo ok W0 bs wa wb wc hl u ht;rw [Sj, Sj] at hl;have W := wa.ok ok W0;have sh := wb.sh ok (by omega) W;obtain ⟨qs, hqs⟩ : ∃ q, q = dW (eF (fk ts) [] ts) := ⟨_, rfl⟩
  rw [<- hqs] at Po ⊢;have pm : qs.Perm (eF (fk ts) [] ts) := by rw [hqs]; exact lQ _
  have nd := λg => by
    have := vU T 12 g ok W (by omega) wb eb okb (by omega) l64 ndb;rw [Po] at this; exact this
  have ip := xU T 28 H (by omega) (by rw [W.lc]; omega) (by rw [pm.length_eq]; omega) (λq m => by
    obtain ⟨⟨s, ms, h1⟩, y, my, h2⟩ := wu (pm.mem_iff.mp m);rw [h1, h2, W.lc];exact ⟨eh s ms, eh y my⟩) nd
  have tf := m6 T 14 H ok W (by omega) wb;have lt : (kH P a).length = P.hs.length := by unfold kH; rw [xn, U4]
  have ix11 : ∀(j : Nat)(g : PH), j < P.hs.length -> aE _ _ g = .ok (.tup (vL b j)) g := λj g hj => jX (_P.dS rfl (Jf hj));have lk : ∀(x : List _)(j : Nat), (vL x j).length <= x.length := λx j => Ym ..;have lc1 : dU ⟨ox, aJ 0 P.hs.length⟩ (aM 1 (gN 18) aK (ao aV (ao aE (aa 14) (aa 18)) (ao aE (aa 11) (aa 18))) (run pg 30) [e0, e1, fI P.v, e3, e4, e5, e6, e7, e8, fI (.tup (qs.map cP)), fI (.ref nm), fI (.tup (kH P b)), fI (az S), fI (.tup (a.map cJ)), fI (.ref t), fI (.ref d), fI (.tup (b.map bz)), e17]) (aJ 0 P.hs.length) [] H = .ok (kH P (a ++ b)) H := by
    refine (cM rfl (S6 P.hs.length) [] (λi m => ?_) (by simp; omega)).trans (by rw [SG, Wx]; rfl);have hi := UO.mp m;have iz : (0 : Int) + (i : Int) = (i : Int) := Vr _;have x14 : aE (.ref t) (.int (i)) H = .ok (.tup (vL a i)) H := by
      rw [oM, I.tb, ph, _P.dS rfl (Jf hi)]; rfl
    have x11 := ix11 i H hi;have ad : aV (.tup (vL a i)) (.tup (vL b i)) H = .ok (.tup (vL a i ++ vL b i)) H := iT (by have := lk a i; have := lk b i; omega);rw [<- FY] at ad;simp? (disch := omega) only [iz, x14, x11, ad]
  obtain ⟨ds, hd, ll⟩ := I.td;have ld : ds.length = ns.length := by rw [ll.len, vN]
  let H1 := H ++ [PO.lst (kH P (a ++ b))]
  have I1n : H1[nm]? = fI (.lst (ns.map PV.str)) := (aq (aC I.nm)).trans I.nm;have I1d : H1[d]? = fI (.lst (ds.map PV.ref)) := (aq (aC hd)).trans hd;have ll1 : LL H1 ds (kD P ns (a.zip (gV S0.aX a))) := ll.app _;obtain ⟨Z, rs, lc2, ll2⟩ := G4 T 13 H1 ok W (by omega) wb (by rw [V5]; omega) I1n I1d ll1 ld e0 e1 e3 e4 e5 e6 e7 e8 (fI (.tup (qs.map cP))) (fI (.tup (kH P b))) (fI (.tup (a.map cJ))) (fI (.ref H.length)) e17 (aJ 0 ns.length) ns.length 0 [] [] (by omega) (by simp; omega) (by rw [List.take_zero]; exact .nil);rw [SA, <- ZA] at lc2;rw [<- vd wa] at ll2
  let H2 := H1 ++ Z
  have wk := iQ T 15 (H2 ++ [PO.lst (rs.map PV.ref)]) ok W (by omega) wb;refine ⟨PO.lst (kH P (a ++ b)) :: (Z ++ [PO.lst (rs.map PV.ref)]), H.length, H2.length, ?_, ?_⟩
  . have e : H ++ PO.lst (kH P (a ++ b)) :: (Z ++ [PO.lst (rs.map PV.ref)]) = H2 ++ [PO.lst (rs.map PV.ref)] := by show _ = ((H ++ _) ++ Z) ++ _; rw [R7, R7]; rfl
    rw [e];refine ⟨?_, ?_, rs, aT, ll2.app _⟩
    . show ((H1 ++ Z) ++ _)[nm]? = _;rw [R7, aq (aC I1n), I1n]
    . show ((H1 ++ Z) ++ _)[H.length]? = _;rw [R7, aq (by show _ < (H ++ _).length; rw [Sj]; exact UN _)];exact aT
  have fin : H ++ PO.lst (kH P (a ++ b)) :: (Z ++ [PO.lst (rs.map PV.ref)]) = H2 ++ [PO.lst (rs.map PV.ref)] := by show _ = ((H ++ _) ++ Z) ++ _; rw [R7, R7]; rfl
  rw [fin];have ip' := ip;have tf' := tf;have wk' := wk;have ln1 : bG [.ref t] H = .ok (.int (P.hs.length)) H := by rw [qP, I.tb, lx, lt]
  have ln2 : bG [.ref nm] H1 = .ok (.int (ns.length)) H1 := by rw [qP, I1n, lx, xn]
  have t1 : Xf (P.hs.length : Int) = P.hs.length := SQ _;have t2 : Xf (ns.length : Int) = ns.length := SQ _;have ad : ∀ g, aV (.tup (a.map cJ)) (.tup (b.map cJ)) g = .ok (.tup ((a ++ b).map cJ)) g := λg => by rw [SH]; exact iT (by rw [xn, xn]; omega)
  have lc2' : dU ⟨ox, aJ 0 ns.length⟩ (aM 1 (gN 18) aK Nr (run pg 30) [e0, e1, fI P.v, e3, e4, e5, e6, e7, e8, fI (.tup (qs.map cP)), fI (.ref nm), fI (.tup (kH P b)), fI (az S), fI (.tup (a.map cJ)), fI (.ref H.length), fI (.ref d), fI (.tup (b.map bz)), e17]) (aJ 0 ns.length) [] H1 = .ok (rs.map PV.ref) H2 := lc2;show (gN 16 _ _ _).bind (PB (run pg 30)) = _;rw [Ja, cK];show ag _ (ag _ (ag _ (ag _ (ag _ _)))) (run pg 30) [e0, e1, fI P.v, e3, e4, e5, e6, e7, e8, fI (.tup (qs.map cP)), fI (.ref nm), e11, fI (az S), fI (.tup (a.map cJ)), fI (.ref t), fI (.ref d), fI (.tup (b.map bz)), e17] _ = _;have hH1 : H1 = H ++ [PO.lst (kH P (a ++ b))] := rfl
  clear_value H2 H1
  refine (aR (e1 := [e0, e1, fI P.v, e3, e4, e5, e6, e7, e8, fI (.tup (qs.map cP)), fI (.ref nm), e11, fI (az S), fI (.tup (a.map cJ)), fI (.ref t), fI (.ref d), fI (.tup (b.map bz)), e17]) (h1 := H) ?_).trans ?_
  . simp? (disch := omega) only [ip']
  refine (aR (e1 := [e0, e1, fI P.v, e3, e4, e5, e6, e7, e8, fI (.tup (qs.map cP)), fI (.ref nm), fI (.tup (kH P b)), fI (az S), fI (.tup (a.map cJ)), fI (.ref t), fI (.ref d), fI (.tup (b.map bz)), e17]) (h1 := H) ?_).trans ?_
  . simp? (disch := omega) only [tf']
  refine (aR (e1 := [e0, e1, fI P.v, e3, e4, e5, e6, e7, e8, fI (.tup (qs.map cP)), fI (.ref nm), fI (.tup (kH P b)), fI (az S), fI (.tup (a.map cJ)), fI (.ref H.length), fI (.ref d), fI (.tup (b.map bz)), e17]) (h1 := H1) ?_).trans ?_
  . rw [hH1];simp? (disch := omega) only [ln1, t1, lc1]
  refine (aR (e1 := [e0, e1, fI P.v, e3, e4, e5, e6, e7, e8, fI (.tup (qs.map cP)), fI (.ref nm), fI (.tup (kH P b)), fI (az S), fI (.tup (a.map cJ)), fI (.ref H.length), fI (.ref H2.length), fI (.tup (b.map bz)), e17]) (h1 := H2 ++ [.lst (rs.map PV.ref)]) ?_).trans ?_
  . simp? (disch := omega) only [ln2, t2, lc2']
  refine (aR (e1 := [e0, e1, fI P.v, e3, e4, e5, e6, e7, e8, fI (.tup (qs.map cP)), fI (.ref nm), fI (.tup (kH P b)), fI (az S1), fI (.tup (a.map cJ)), fI (.ref H.length), fI (.ref H2.length), fI (.tup (b.map bz)), fI (.tup (b.map cJ))]) (h1 := H2 ++ [.lst (rs.map PV.ref)]) ?_).trans ?_
  . simp? (disch := omega) only [wk']
  simp? (disch := omega) only [ad]
end
noncomputable def room:=30
theorem aai P:Bs P (aN P):=by
 refine⟨λi l ⟨s,e,m⟩=>?_,λb=> .inl ?_⟩
 . have e':(P.hs.map dm)[i]?=fI s:=e;rw[Sq] at e';obtain⟨x,_,rfl⟩:=Ta.mp e';unfold dm at m;rw[cy] at m;nomatch m
 . show(((P.bs.map λz=>(z.2,PV.non))[(P.nm 0).idxOf b]?).getD _).2=_;rw[Sq];cases P.bs[(P.nm 0).idxOf b]?<;>rfl
theorem Ek p q: ∃ x y,YZ [p,q]=[x,y]/\x<=y/\(x=p\/x=q)/\(y=p\/y=q):=by
 by_cases c:q < p
 . exact⟨q,p,by simp[YZ,Gh,c],by omega,.inr rfl,.inl rfl⟩
 . exact⟨p,q,by simp[YZ,Gh,c],by omega,.inl rfl,.inr rfl⟩
section
variable{pg:Tb}(T:bH pg)
include T
theorem KW k h {ns0:List Str} (hnm:h[nm]?=fI (.lst (ns0.map PV.str))) E (hE:E.length=18): ∀(ns:List Str) rs yss Y,rs.length+ns.length<=1000->LL (h++Y) rs yss ->
  ∃(Z:PH)(rs':List Nat),dU ⟨fI nm,ns0.map PV.str⟩ (aM 1 (gN 18) aK (bA aj) (run pg k) E) (ns.map PV.str) (rs.map PV.ref) (h++Y)= .ok (rs'.map PV.ref) (h++Z)/\LL (h++Z) rs' (yss++ns.map λ_=>[]):=by
 intro ns
 induction ns with
 | nil=>intro rs yss Y _ l;exact⟨Y,rs,by rw[SF,_P.dU,if_pos (bE ((aq (aC hnm)).trans hnm))],by rw[SF,SA];exact l⟩
 | cons t ns ih =>
  intro rs yss Y hr l
  rw[Sb] at hr
  have ll2:LL (h++(Y++[PO.lst []])) (rs++[(h++Y).length]) (yss++[[]]):=by
   rw[<- R7];exact(l.app _).snoc aT
  obtain⟨Z,rs',i1,i2⟩:=ih _ _ _ (by simp;omega) ll2
  refine⟨Z,rs',?_,by rw[R7] at i2;exact i2⟩
  have fi:kC.ir _ (h++Y)=true:=bE ((aq (aC hnm)).trans hnm)
  have hz:(rs.map PV.ref).length < sizeLine:=by rw[xn];exact SK (show rs.length < 1001 by omega) (by decide)
  have st:aM 1 (gN 18) aK (bA aj) (run pg k) E (.str t) (h++Y)= .ok (fI (.ref (h++Y).length)) (h++(Y++[PO.lst []])):=by
   rw[<- R7];generalize h++Y=J;simp? [SF]
  rw[R9,_P.dU,if_pos ⟨fi,hz⟩,st]
  have:=i1
  rw[SH] at this
  exact this
end
section
variable{pg:Tb}(T:bH pg)
include T
theorem uD k J {s:List Str} (hn:J[n]?=fI (.lst (l.map PV.str))) (hl:l.length+s.length<=1000) e0 e1 e2 e3 e4 e5 e6 e7 e8 e9 e11 e12 e13 e14 e15 e16 e17 :
  aW (gN 11) (ak (ao aV (aa 10) (eB kS (a1 (aa 11)))) (gN 10)) (run pg k) (.tup (s.map PV.str)) [e0,e1,e2,e3,e4,e5,e6,e7,e8,e9,fI (.ref n),e11,e12,e13,e14,e15,e16,e17] J= .ok (.nx [e0,e1,e2,e3,e4,e5,e6,e7,e8,e9,fI (.ref (J.length+1)),fI (.tup (s.map PV.str)),e12,e13,e14,e15,e16,e17]) (J++[.lst (s.map PV.str),.lst ((l++s).map PV.str)]):=by
 have li:kS _ J= .ok _ (J++[.lst (s.map PV.str)]):=Fh;have ad:=mK (h:=J++[PO.lst (s.map PV.str)]) ((aq (aC hn)).trans hn) aT (by rw[xn,xn];omega);rw[R7,<- SH] at ad;have ad':aV _ _ _= .ok _ (J++[.lst _,.lst _]):=ad;simp? [ad']
theorem zo k J {P:Pg} (hn:J[n]?=fI (.lst ((P.bs.map (·.1)).map PV.str))) (hl:P.bs.length+P.s1.length+P.s2.length+P.s3.length<=1000) e0 e1 e2 e3 e4 e5 e6 e7 e8 e9 e11 e12 e13 e14 e15 e16 e17 :
  ∃(Y:PH)(m:Nat)(f11:Option PV),(J++Y)[m]?=fI (.lst ((((P.bs.map (·.1)++P.s1)++P.s2)++P.s3).map PV.str))/\bK ⟨ox,[.tup (P.s1.map PV.str),.tup (P.s2.map PV.str),.tup (P.s3.map PV.str)]⟩ (aW (gN 11) (ak (ao aV (aa 10) (eB kS (a1 (aa 11)))) (gN 10)) (run pg k)) [.tup (P.s1.map PV.str),.tup (P.s2.map PV.str),.tup (P.s3.map PV.str)] [e0,e1,e2,e3,e4,e5,e6,e7,e8,e9,fI (.ref n),e11,e12,e13,e14,e15,e16,e17] J =
   .ok (.nx [e0,e1,e2,e3,e4,e5,e6,e7,e8,e9,fI (.ref m),f11,e12,e13,e14,e15,e16,e17]) (J++Y):=by
 have l0:(P.bs.map (·.1)).length=P.bs.length:=xn ..
 have at_: ∀(J:PH)(s l:List Str),(J++[PO.lst (s.map PV.str),.lst _])[J.length+1]?=fI (.lst (l.map PV.str)):=λJ s l=>by rw[aP];rfl
 have s1:=uD T k J hn (s:=P.s1) (by omega) e0 e1 e2 e3 e4 e5 e6 e7 e8 e9 e11 e12 e13 e14 e15 e16 e17;obtain⟨J1,hJ1⟩: ∃ X,X=J++[PO.lst (P.s1.map PV.str),.lst ((P.bs.map (·.1)++P.s1).map PV.str)]:=⟨_,rfl⟩
 have h1:=at_ J P.s1 (P.bs.map (·.1)++P.s1)
 rw[<- hJ1] at s1 h1;have s2:=uD T k J1 h1 (s:=P.s2) (by rw[Sj];omega) e0 e1 e2 e3 e4 e5 e6 e7 e8 e9 (fI (.tup (P.s1.map PV.str))) e12 e13 e14 e15 e16 e17;obtain⟨J2,hJ2⟩: ∃ X,X=J1++[PO.lst (P.s2.map PV.str),.lst ((P.bs.map (·.1)++P.s1++P.s2).map PV.str)]:=⟨_,rfl⟩
 have h2:=at_ J1 P.s2 (P.bs.map (·.1)++P.s1++P.s2)
 rw[<- hJ2] at s2 h2;have s3:=uD T k J2 h2 (s:=P.s3) (by rw[Sj,Sj];omega) e0 e1 e2 e3 e4 e5 e6 e7 e8 e9 (fI (.tup (P.s2.map PV.str))) e12 e13 e14 e15 e16 e17;have h3:=at_ J2 P.s3 (P.bs.map (·.1)++P.s1++P.s2++P.s3)
 have fin:J++([PO.lst (P.s1.map PV.str),.lst ((P.bs.map (·.1)++P.s1).map PV.str)]++([PO.lst (P.s2.map PV.str),.lst ((P.bs.map (·.1)++P.s1++P.s2).map PV.str)]++[PO.lst (P.s3.map PV.str),.lst ((P.bs.map (·.1)++P.s1++P.s2++P.s3).map PV.str)]))=J2++[PO.lst (P.s3.map PV.str),.lst ((P.bs.map (·.1)++P.s1++P.s2++P.s3).map PV.str)]:=by rw[hJ2,hJ1];simp only[R7]
 refine⟨_,J2.length+1,fI (.tup (P.s3.map PV.str)),by rw[fin];exact h3,?_⟩;rw[fin,fN,s1,cK,bL,fN,s2,cK,bL,fN,s3,cK,bL,jy]
end
theorem DM: ∀ ns:List Int,ns.length<=63->Ok (run tb (room+1) "law" [.ref 0] [.fro (ns.map PV.int)]) λv _=>v= .bl true:=by
 intro ns0 hn;have T:=has;show Ok (run tb (30+1) "law" [.ref 0] [r6 ns0]) _;obtain⟨q0,bx⟩:=Mg T 29 ns0 hn;obtain⟨bs,s1,s2,s3,hs,p,q1,D,ep⟩:=zg T 23 (r6 ns0) q0 [];obtain⟨rfl,ok⟩:=D.pg;obtain⟨P,hP⟩: ∃ P,P=Pg.mk bs s1 s2 s3 hs:=⟨_,rfl⟩
 rw[<- hP] at ok ep;have hm:=ok.many;obtain⟨X,lX,R0,ef⟩:=uK T 19 _ ok;have R0:Rep ([r6 ns0,bV q1]++X) 2 P _ _:=R0;obtain⟨t,q2,t0,t1,et⟩:=cC T 29 (r6 ns0) q1 31 (by decide) (by decide);obtain⟨tn,rfl⟩:=Tj t0;have W0:=GW ok;have R1:Rep (r6 ns0::bV q2::X) 2 P (aN P) (aN P).ck:=R0.same λi h1 _=>by
  obtain⟨k,rfl⟩: ∃ k,i=k+1+1:=⟨i - 2,by omega⟩
  rfl
 obtain⟨a,S,q3,G,la,w,lG,R3,off,ed⟩:=vC T 9 ok (by omega) W0 R1 (by simp only[Sb,lX];omega) (m:=tn) (by omega);have la30:a.length<=30:=by omega
 clear R0 R1 R3 off
 obtain⟨p1,q4,p10,p19,el1⟩:=cC T 29 (r6 ns0) q3 ((a.length)+1) (by omega) (by omega);obtain⟨p2,q5,p20,p29,el2⟩:=cC T 29 (r6 ns0) q4 ((a.length)+1) (by omega) (by omega);obtain⟨x0,y0,hxy,xy,hx,hy⟩:=Ek p1 p2;obtain⟨x,rfl⟩:=Tj (show 0<=x0 by rcases hx with rfl | rfl<;>assumption);obtain⟨y,rfl⟩:=Tj (show 0<=y0 by rcases hy with rfl | rfl<;>assumption);have xy':x<=y:=by omega
 obtain⟨b1,hb1⟩: ∃ b,b=a.take x:=⟨_,rfl⟩
 obtain⟨b2,hb2⟩: ∃ b,b=(a.take y).drop x:=⟨_,rfl⟩
 obtain⟨b3,hb3⟩: ∃ b,b=a.drop y:=⟨_,rfl⟩
 have ab:a=b1++(b2++b3):=by
  have:(a.take y).take x=a.take x:=by rw[List.take_take,WW xy']
  rw[hb1,hb2,hb3,<- R7,<- this,Zh,Zh]
 obtain⟨S1,w1,w23⟩:=Wk.split (by rw[<- ab];exact w);obtain⟨S2,w2,w3⟩:=Wk.split w23;have la':(b1++(b2++b3)).length<=30:=by rw[<- ab];exact la30
 obtain⟨ts,u,ht,lt,ev⟩:=w.ts ok W0 (by omega);have B0:=aai P;have I:=u.PR (In.nil B0);rw[SG] at I;have od:=I.od;obtain⟨f1,_⟩:=u.jD (In.nil B0) od rfl;have lq:(eF (fk ts) [] ts).length < 64:=by
  have:live P (aN P) []=0:=rfl;omega
 have ndq:(eF (fk ts) [] ts).Nodup:=uZ od;have WS:=w.ok ok W0;have eh: ∀ t∈ts,0<=t.e.1/\t.e.1.toNat < P.hs.length:=λt m=>by
  obtain⟨j,c,h1,h2,_⟩:=I.lt t m;have:=(RY.mp h2).1;rw[WS.lc] at this;omega
 obtain⟨qs,hqs⟩: ∃ q,q=dW (eF (fk ts) [] ts):=⟨_,rfl⟩
 have bx20:=ok.bx.1;have nm1:=ok.nm.1.1;have nm2:=ok.nm.2.1.1;have nm3:=ok.nm.2.2.1;obtain⟨J5,hJ5⟩: ∃ X,X=r6 ns0::bV q5::G:=⟨_,rfl⟩
 obtain⟨J6,hJ6⟩: ∃ X,X=J5++[PO.lst [.int p1,.int p2],.lst [.int (x),.int (y)]]:=⟨_,rfl⟩
 obtain⟨J7,hJ7⟩: ∃ X,X=J6++[PO.lst [.tup (b1.map bz),.tup (b2.map bz),.tup (b3.map bz)]]:=⟨_,rfl⟩
 obtain⟨J8,hJ8⟩: ∃ X,X=J7++[PO.lst ((P.bs.map (·.1)).map PV.str)]:=⟨_,rfl⟩
 have so:=FN (h:=J5++[PO.lst [.int p1,.int p2]]) (bs:=[p1,p2]) aT (by simp);rw[hxy,Sj,R7] at so;have so':mn [.ref J5.length] (J5++[PO.lst [.int p1,.int p2]])= .ok (.ref (J5.length+1)) J6:=by rw[hJ6];exact so
 have x4:J6[J5.length+1]?=fI (.lst [.int (x),.int (y)]):=by rw[hJ6,aP];rfl
 have i40:aE (.ref (J5.length+1)) (.int 0) J6= .ok (.int (x)) J6:=by
  rw[oM,x4];show Ls (.int ((0:Nat))) _ (fI (.lst ([(x:Int),(y)].map PV.int)))=_;rw[ph,ba (f:=PV.int) (z:=(x)) rfl];rfl
 have i41:aE (.ref (J5.length+1)) (.int 1) J6= .ok (.int (y)) J6:=by
  rw[oM,x4];show Ls (.int ((1:Nat))) _ (fI (.lst ([(x:Int),(y)].map PV.int)))=_;rw[ph,ba (f:=PV.int) (z:=(y)) rfl];rfl
 have sl1: ∀ g,yf (.tup (a.map bz)) ox (fI (x:Int)) g= .ok (.tup (b1.map bz)) g:=λg=>by rw[Cy,_P.qz (by omega),SQ,hb1,WM]
 have sl2: ∀ g,yf (.tup (a.map bz)) (fI (x:Int)) (fI (y:Int)) g= .ok (.tup (b2.map bz)) g:=λg=>by rw[Cy,_P.Ai (by omega) (by omega),SQ,SQ,hb2,Yk,WM]
 have sl3: ∀ g,yf (.tup (a.map bz)) (fI (y:Int)) ox g= .ok (.tup (b3.map bz)) g:=λg=>by rw[Cy,_P.mH (by omega),SQ,hb3,Yk]
 have fs:=qn T 18 J7 ok;have wk:=iQ T 15 J7 ok W0 (by omega) w;have nd:run tb 30 "needs" [P.v,az (aN P),.tup (a.map bz)] J7= .ok (.tup (qs.map cP)) J7:=by rw[hqs];exact vU T 13 J7 ok W0 (by omega) w ht I.ok (by omega) lq ndq
 have h8:J8[J7.length]?=fI (.lst ((P.bs.map (·.1)).map PV.str)):=by rw[hJ8];exact aT
 obtain⟨Y9,m,f11,h9,lp9⟩:=zo T 30 J8 h8 (by omega) (fI (.ref 0)) (fI (.ref 1)) (fI P.v) (fI (.tup (a.map bz))) (fI (.ref (J5.length+1))) (fI (.ref J6.length)) (fI (az (aN P))) (fI (az S)) (fI (.tup (a.map cJ))) (fI (.tup (qs.map cP))) ox ox ox ox ox ox ox;obtain⟨ns,hns⟩: ∃ l,l=((P.bs.map (·.1)++P.s1)++P.s2)++P.s3:=⟨_,rfl⟩
 rw[<- hns] at h9;have de:ns.length<=100:=by rw[hns];simp only[Sj,xn];omega
 obtain⟨J9,hJ9⟩: ∃ X,X=J8++Y9:=⟨_,rfl⟩
 rw[<- hJ9] at h9 lp9;obtain⟨J10,hJ10⟩: ∃ X,X=J9++[PO.lst (kH P [])]:=⟨_,rfl⟩
 have h10:J10[m]?=fI (.lst (ns.map PV.str)):=by rw[hJ10];exact(aq (aC h9)).trans h9
 obtain⟨Z,rs,lcE,llE⟩:=KW T 30 J10 h10 [fI (.ref 0),fI (.ref 1),fI P.v,fI (.tup (a.map bz)),fI (.ref (J5.length+1)),fI (.ref J6.length),fI (az (aN P)),fI (az S),fI (.tup (a.map cJ)),fI (.tup (qs.map cP)),fI (.ref m),f11,fI (az (aN P)),fI (.tup []),fI (.ref J9.length),ox,ox,ox] rfl ns [] [] [] (by simp;omega) .nil;rw[SA,SF] at lcE;obtain⟨J11,hJ11⟩: ∃ X,X=J10++Z:=⟨_,rfl⟩
 rw[<- hJ11] at lcE llE;obtain⟨K,hK⟩: ∃ X,X=J11++[PO.lst (rs.map PV.ref)]:=⟨_,rfl⟩
 have hz:kD P ns (([]).zip (gV (aN P).aX []))=[]++ns.map λ_=>[]:=by
  unfold kD dB;simp only[NU,List.filter_nil,ite_self,SF,SG]
 have P0:Qb P ns (aN P) [] K m J9.length J11.length:=by
  refine⟨?_,?_,rs,by rw[hK];exact aT,by rw[hK,hz];exact llE.app _⟩
  . rw[hK,hJ11,R7,aq (aC h10),h10]
  . rw[hK,hJ11,hJ10,R7,R7];exact aT
 have ta:(([]++(b1++(b2++b3))).zip (gV (aN P).aX ([]++(b1++(b2++b3))))).map gS=ts.map Tc.V:=by rw[SG,<- ab];exact ht
 have tb':((([]++b1)++(b2++b3)).zip (gV (aN P).aX (([]++b1)++(b2++b3)))).map gS=ts.map Tc.V:=by rw[SG,<- ab];exact ht
 have tc:((([]++b1++b2)++(b3++[])).zip (gV (aN P).aX (([]++b1++b2)++(b3++[])))).map gS=ts.map Tc.V:=by rw[SG,SA,R7,<- ab];exact ht
 obtain⟨Y1,t1',d1',P1,c1⟩:=nX T K ok W0 B0 (.nil _) w1 w23 (by rw[SG];exact la') u ta lq ev eh de P0 (fI (.ref 0)) (fI (.ref 1)) (fI (.tup (a.map bz))) (fI (.ref (J5.length+1))) (fI (.ref J6.length)) (fI (az (aN P))) (fI (az S)) (fI (.tup (a.map cJ))) f11 ox ox;obtain⟨Y2,t2',d2',P2,c2⟩:=nX T (K++Y1) ok W0 B0 (by rw[SG];exact w1) w2 w3 (by rw[SG];exact la') u tb' lq ev eh de P1 (fI (.ref 0)) (fI (.ref 1)) (fI (.tup (a.map bz))) (fI (.ref (J5.length+1))) (fI (.ref J6.length)) (fI (az (aN P))) (fI (az S)) (fI (.tup (a.map cJ))) (fI (.tup (kH P b1))) (fI (.tup (b1.map bz))) (fI (.tup (b1.map cJ)));obtain⟨Y3,t3',d3',P3',c3⟩:=nX T (K++Y1++Y2) ok W0 B0 (by rw[SG];exact w1.app w2) w3 (.nil _) (by rw[SG,SA,R7];exact la') u tc lq ev eh de P2 (fI (.ref 0)) (fI (.ref 1)) (fI (.tup (a.map bz))) (fI (.ref (J5.length+1))) (fI (.ref J6.length)) (fI (az (aN P))) (fI (az S)) (fI (.tup (a.map cJ))) (fI (.tup (kH P b2))) (fI (.tup (b2.map bz))) (fI (.tup (b2.map cJ)));have ab':[]++b1++b2++b3=a:=by rw[SG,R7,<- ab]
 rw[ab'] at P3' c3;have sh:=w.sh ok (N:=0) (by omega) W0;obtain⟨_,tsh⟩:=EN ok (by omega) sh;obtain⟨z1,sz1⟩:=(dM 5 (D8 ok (by omega) WS) (dM 5 tsh (rq 5))).show;obtain⟨z2,sz2⟩:=(Jd ok (by omega) sh).show;obtain⟨M,hM⟩: ∃ X,X=K++Y1++Y2++Y3:=⟨_,rfl⟩
 rw[<- hM] at P3' c3;obtain⟨Z2,rs2,lcH,llH⟩:=MX T 13 M ok W0 (by omega) w P3'.nm (fI (.ref 0)) (fI (.ref 1)) (fI (.ref (J5.length+1))) (fI (.ref J6.length)) (fI (az S)) (fI (.tup (a.map cJ))) (fI (.tup (qs.map cP))) (fI (.ref m)) (fI (.tup (kH P b3))) (fI (az S)) (fI (.tup (a.map cJ))) (fI (.ref t3')) (fI (.ref d3')) (fI (.tup (b3.map bz))) (fI (.tup (b3.map cJ))) ns [] [] [] (by simp;omega) .nil;rw[SA,SF] at lcH;rw[SG] at llH;obtain⟨M2,hM2⟩: ∃ X,X=M++Z2:=⟨_,rfl⟩
 rw[<- hM2] at lcH llH;obtain⟨ds3,hd3,ll3⟩:=P3'.td;have fl:=w.ER ok W0;have eqL:eE (.ref d3') (.ref M2.length) (M2++[PO.lst (rs2.map PV.ref)])= .ok (.bl true) (M2++[PO.lst (rs2.map PV.ref)]):=by
  refine NW (ds:=ds3) (es:=rs2) ?_ aT (xss:=kD P ns (a.zip (gV (aN P).aX a))) ?_ (llH.app _) λxs mx=>?_
  . rw[hM2,R7,aq (aC hd3),hd3]
  . rw[hM2,R7];exact ll3.app _
  . obtain⟨t,_,rfl⟩:=SS.mp mx;exact Ee fl _
 have tuT:aQ [.ref t3'] M= .ok (.tup (kH P a)) M:=by rw[jb,P3'.tb];exact gB
 have tbl:=m6 T 14 M ok W0 (by omega) w;have ef':=ef;have et':=et X;have el1':=el1 G;have el2':run tb 30 "_law_take" [.ref 1,.int ((a.length)+1)] (r6 ns0::bV q4::G)= .ok (.int p2) J5:=by rw[hJ5];exact el2 G
 have A:En (run tb 30) [fI (.ref 0),ox,ox,ox,ox,ox,ox,ox,ox,ox,ox,ox,ox,ox,ox,ox,ox,ox] [r6 ns0]= .ok (.rt (.bl true)) (M2++[PO.lst (rs2.map PV.ref)]):=by
  show ag _ (ag _ (ag _ (ag _ (ag _ (ag _ (ag _ (ag _ (ag _ (ag _ (ag _ (ag _ (ag _ (ag _ (ag _ (ag _ _))))))))))))))) _ _ _=_;refine(aR (e1:=[fI (.ref 0),fI (.ref 1),ox,ox,ox,ox,ox,ox,ox,ox,ox,ox,ox,ox,ox,ox,ox,ox]) (h1:=[r6 ns0,bV q0]) ?_).trans ?_
  . simp? [bx]
  refine(aR (e1:=[fI (.ref 0),fI (.ref 1),fI P.v,ox,ox,ox,ox,ox,ox,ox,ox,ox,ox,ox,ox,ox,ox,ox]) (h1:=[r6 ns0,bV q1]) ?_).trans ?_
  . simp? [ep]
  refine(aR (e1:=[fI (.ref 0),fI (.ref 1),fI P.v,fI (.tup (a.map bz)),ox,ox,ox,ox,ox,ox,ox,ox,ox,ox,ox,ox,ox,ox]) (h1:=r6 ns0::bV q3::G) ?_).trans ?_
  . simp? [ef',et',ed]
  generalize r6 ns0::bV q3::G=A1 at el1' ⊢;generalize r6 ns0::bV q4::G=A2 at el1' el2';refine(aR (e1:=[fI (.ref 0),fI (.ref 1),fI P.v,fI (.tup (a.map bz)),fI (.ref (J5.length+1)),ox,ox,ox,ox,ox,ox,ox,ox,ox,ox,ox,ox,ox]) (h1:=J6) ?_).trans ?_
  . simp? [xn,el1',el2',so']
  refine(aR (e1:=[fI (.ref 0),fI (.ref 1),fI P.v,fI (.tup (a.map bz)),fI (.ref (J5.length+1)),fI (.ref J6.length),ox,ox,ox,ox,ox,ox,ox,ox,ox,ox,ox,ox]) (h1:=J7) ?_).trans ?_
  . rw[hJ7];simp? [i40,i41,sl1,sl2,sl3]
  refine(aR (e1:=[fI (.ref 0),fI (.ref 1),fI P.v,fI (.tup (a.map bz)),fI (.ref (J5.length+1)),fI (.ref J6.length),fI (az (aN P)),ox,ox,ox,ox,ox,ox,ox,ox,ox,ox,ox]) (h1:=J7) ?_).trans ?_
  . simp? [fs]
  refine(aR (e1:=[fI (.ref 0),fI (.ref 1),fI P.v,fI (.tup (a.map bz)),fI (.ref (J5.length+1)),fI (.ref J6.length),fI (az (aN P)),fI (az S),fI (.tup (a.map cJ)),ox,ox,ox,ox,ox,ox,ox,ox,ox]) (h1:=J7) ?_).trans ?_
  . simp? [wk]
  refine(aR (e1:=[fI (.ref 0),fI (.ref 1),fI P.v,fI (.tup (a.map bz)),fI (.ref (J5.length+1)),fI (.ref J6.length),fI (az (aN P)),fI (az S),fI (.tup (a.map cJ)),fI (.tup (qs.map cP)),ox,ox,ox,ox,ox,ox,ox,ox]) (h1:=J7) ?_).trans ?_
  . simp? [nd]
  refine(aR (e1:=[fI (.ref 0),fI (.ref 1),fI P.v,fI (.tup (a.map bz)),fI (.ref (J5.length+1)),fI (.ref J6.length),fI (az (aN P)),fI (az S),fI (.tup (a.map cJ)),fI (.tup (qs.map cP)),fI (.ref J7.length),ox,ox,ox,ox,ox,ox,ox]) (h1:=J8) ?_).trans ?_
  . have i0: ∀ g,aE P.v (.int 0) g= .ok (.tup (P.bs.map eW)) g:=λg=>kI;have lc:dU ⟨ox,P.bs.map eW⟩ (aM 1 (gN 18) aK (eX 18 0) (run tb 30) [fI (.ref 0),fI (.ref 1),fI P.v,fI (.tup (a.map bz)),fI (.ref (J5.length+1)),fI (.ref J6.length),fI (az (aN P)),fI (az S),fI (.tup (a.map cJ)),fI (.tup (qs.map cP)),ox,ox,ox,ox,ox,ox,ox,ox]) (P.bs.map eW) [] J7= .ok ((P.bs.map (·.1)).map PV.str) J7:=by
     rw[Tf];refine Ec (l:=P.bs) (g:=eW) (f:=PV.str ∘ λz=>z.1) (by omega) λz _=>?_;unfold eW;simp? [SF];rfl
    rw[hJ8];simp? [i0,lc]
  refine(aR (e1:=[fI (.ref 0),fI (.ref 1),fI P.v,fI (.tup (a.map bz)),fI (.ref (J5.length+1)),fI (.ref J6.length),fI (az (aN P)),fI (az S),fI (.tup (a.map cJ)),fI (.tup (qs.map cP)),fI (.ref m),f11,ox,ox,ox,ox,ox,ox]) (h1:=J9) ?_).trans ?_
  . have sl:yf P.v (fI 1) (fI 4) J8= .ok (.tup [.tup (P.s1.map PV.str),.tup (P.s2.map PV.str),.tup (P.s3.map PV.str)]) J8:=by
     unfold Pg.v;rw[Cy,_P.Ai (by decide) (by decide)];rfl
    generalize [PV.tup (P.s1.map PV.str),.tup (P.s2.map PV.str),.tup (P.s3.map PV.str)]=vs at lp9 sl;simp? [sl,lp9]
  refine(aR (e1:=[fI (.ref 0),fI (.ref 1),fI P.v,fI (.tup (a.map bz)),fI (.ref (J5.length+1)),fI (.ref J6.length),fI (az (aN P)),fI (az S),fI (.tup (a.map cJ)),fI (.tup (qs.map cP)),fI (.ref m),f11,fI (az (aN P)),ox,ox,ox,ox,ox]) (h1:=J9) ?_).trans ?_
  . simp? [SF]
  refine(aR (e1:=[fI (.ref 0),fI (.ref 1),fI P.v,fI (.tup (a.map bz)),fI (.ref (J5.length+1)),fI (.ref J6.length),fI (az (aN P)),fI (az S),fI (.tup (a.map cJ)),fI (.tup (qs.map cP)),fI (.ref m),f11,fI (az (aN P)),fI (.tup []),ox,ox,ox,ox]) (h1:=J9) ?_).trans ?_
  . simp? [SF]
  refine(aR (e1:=[fI (.ref 0),fI (.ref 1),fI P.v,fI (.tup (a.map bz)),fI (.ref (J5.length+1)),fI (.ref J6.length),fI (az (aN P)),fI (az S),fI (.tup (a.map cJ)),fI (.tup (qs.map cP)),fI (.ref m),f11,fI (az (aN P)),fI (.tup []),fI (.ref J9.length),ox,ox,ox]) (h1:=J10) ?_).trans ?_
  . have i4: ∀ g,aE P.v (.int 4) g= .ok (.tup (P.hs.map bR)) g:=λg=>uk;have lc:dU ⟨ox,P.hs.map bR⟩ (aM 1 (gN 18) aK (aw aj) (run tb 30) [fI (.ref 0),fI (.ref 1),fI P.v,fI (.tup (a.map bz)),fI (.ref (J5.length+1)),fI (.ref J6.length),fI (az (aN P)),fI (az S),fI (.tup (a.map cJ)),fI (.tup (qs.map cP)),fI (.ref m),f11,fI (az (aN P)),fI (.tup []),ox,ox,ox,ox]) (P.hs.map bR) [] J9= .ok (kH P []) J9:=by
     have e:kH P []=P.hs.map λ_=> .tup []:=by unfold kH vL;simp[List.map_const']
     rw[e];refine Ec (l:=P.hs) (g:=bR) (f:=λ_=> .tup []) (by omega) λz _=>?_;simp? [SF]
    rw[hJ10];simp? [i4,lc]
  refine(aR (e1:=[fI (.ref 0),fI (.ref 1),fI P.v,fI (.tup (a.map bz)),fI (.ref (J5.length+1)),fI (.ref J6.length),fI (az (aN P)),fI (az S),fI (.tup (a.map cJ)),fI (.tup (qs.map cP)),fI (.ref m),f11,fI (az (aN P)),fI (.tup []),fI (.ref J9.length),fI (.ref J11.length),ox,ox]) (h1:=K) ?_).trans ?_
  . have it:lA (.ref m) J10= .ok ⟨fI m,ns.map PV.str⟩ J10:=by rw[jI,h10,lK]
    rw[hK];simp? [it,lcE]
  refine(aR (e1:=[fI (.ref 0),fI (.ref 1),fI P.v,fI (.tup (a.map bz)),fI (.ref (J5.length+1)),fI (.ref J6.length),fI (az (aN P)),fI (az S),fI (.tup (a.map cJ)),fI (.tup (qs.map cP)),fI (.ref m),fI (.tup (kH P b3)),fI (az S),fI (.tup (a.map cJ)),fI (.ref t3'),fI (.ref d3'),fI (.tup (b3.map bz)),fI (.tup (b3.map cJ))]) (h1:=M) ?_).trans ?_
  . have k7:J7[J6.length]?=fI (.lst [.tup (b1.map bz),.tup (b2.map bz),.tup (b3.map bz)]):=by rw[hJ7];exact aT
    have kK: ∀ X,(K++X)[J6.length]?=fI (.lst [.tup (b1.map bz),.tup (b2.map bz),.tup (b3.map bz)]):=λX=>by
     rw[hK,hJ11,hJ10,hJ9,hJ8];simp only[R7];exact(aq (aC k7)).trans k7
    have kK0:K[J6.length]?=fI (.lst [.tup (b1.map bz),.tup (b2.map bz),.tup (b3.map bz)]):=by have:=kK [];rw[SA] at this;exact this
    have it:lA (.ref J6.length) K= .ok ⟨fI J6.length,[.tup (b1.map bz),.tup (b2.map bz),.tup (b3.map bz)]⟩ K:=by rw[jI,kK0,lK]
    rw[<- hqs] at c1 c2 c3;have lp:bK ⟨fI J6.length,[.tup (b1.map bz),.tup (b2.map bz),.tup (b3.map bz)]⟩ (aW (gN 16) PB (run tb 30)) [.tup (b1.map bz),.tup (b2.map bz),.tup (b3.map bz)] [fI (.ref 0),fI (.ref 1),fI P.v,fI (.tup (a.map bz)),fI (.ref (J5.length+1)),fI (.ref J6.length),fI (az (aN P)),fI (az S),fI (.tup (a.map cJ)),fI (.tup (qs.map cP)),fI (.ref m),f11,fI (az (aN P)),fI (.tup []),fI (.ref J9.length),fI (.ref J11.length),ox,ox] K =
      .ok (.nx [fI (.ref 0),fI (.ref 1),fI P.v,fI (.tup (a.map bz)),fI (.ref (J5.length+1)),fI (.ref J6.length),fI (az (aN P)),fI (az S),fI (.tup (a.map cJ)),fI (.tup (qs.map cP)),fI (.ref m),fI (.tup (kH P b3)),fI (az S),fI (.tup (a.map cJ)),fI (.ref t3'),fI (.ref d3'),fI (.tup (b3.map bz)),fI (.tup (b3.map cJ))]) M:=by
     rw[SF,SG] at c1;rw[SG] at c2 c3;rw[gY (bE kK0),c1,cK,bL,gY (bE (kK _)),c2,cK,bL,gY (by rw[R7];exact bE (kK _)),c3,cK,bL,mL (by rw[hM,R7,R7];exact bE (kK _))]
    unfold PB Nr at lp;generalize [PV.tup (b1.map bz),.tup (b2.map bz),.tup (b3.map bz)]=vs at it lp
    clear c1 c2 c3 lcH lcE lp9
    simp? [it,lp]
  refine(aR (e1:=[fI (.ref 0),fI (.ref 1),fI P.v,fI (.tup (a.map bz)),fI (.ref (J5.length+1)),fI (.ref J6.length),fI (az (aN P)),fI (az S),fI (.tup (a.map cJ)),fI (.tup (qs.map cP)),fI (.ref m),fI (.tup (kH P b3)),fI (az S),fI (.tup (a.map cJ)),fI (.ref t3'),fI (.ref d3'),fI (.tup (b3.map bz)),fI (.tup (b3.map cJ))]) (h1:=M) ?_).trans ?_
  . simp? [sz1,tuT,sz2,tbl]
  have itM:lA (.ref m) M= .ok ⟨fI m,ns.map PV.str⟩ M:=by rw[jI,P3'.nm,lK]
  simp? [itM,lcH,eqL]
 rw[run_eq T.Jg rfl];show Ok (fin _ (En (run tb 30) [fI (.ref 0),ox,ox,ox,ox,ox,ox,ox,ox,ox,ox,ox,ox,ox,ox,ox,ox,ox] [r6 ns0])) _;rw[A,lM];unfold _P.settle;split<;>exact⟨_,_,rfl,rfl⟩
open PySem PySem.W PyProof.Rows
set_option maxHeartbeats 8000000
def cZ(K:Sy)(mg:Str->Option RZ):List (String × Nat)->Prop
 | []=>True
 | (x,n)::l=>At K mg x (top n)/\cZ K mg l
def Zs(K:Sy):List Str->Prop
 | []=>True
 | x::l=>y7 K UI x=fI ox/\Zs K l
theorem Zs.all{K}(X:K.In h)(G:h.Ns UI mg): ∀{l},Zs K l-> ∀ x∈l,mg x=ox
 | [],_=>by simp_all
 | _::_,z=>VK.mpr ⟨PySem.W.mg_none_of X G z.1,Zs.all X G z.2⟩
theorem cZ.go{K}{x:String}{st}{m:List (String × Df)}(g:bH tb->At K mg x (top n)->aU P w K mg tb b.1 b.2 st N)(A:cZ K mg ((x,n)::l))(r:cZ K mg l-> ∀ p∈m,∃ st N,aU P w K mg tb p.1 p.2 st N): ∀ p∈b::m,∃ st N,aU P w K mg tb p.1 p.2 st N:=VK.mpr ⟨⟨_,_,g has A.1⟩,r A.2⟩
theorem Np{K}(c:DV K x u)(r:UX (λ(p) (l:Str × Tok × RZ)=>p.1= .inr l.1/\DV K p.2 l.2.2) kvs ls):UX (λ(p:Key × PV) (l)=>p.1= .inr l.1/\DV K p.2 l.2.2) ((.inr k,x)::kvs) ((k,t,u)::ls):= .cons ⟨rfl,c⟩ r
theorem all_mk{l:WQ}{w:Tp}{K:Sy}{h:SM}{mg:Str->Option RZ}{fa:Sl}(X:K.In h)(G:h.Ns UI mg)(hfa:mg "law" =fI (.ref fa))
  (A:cZ K mg [("is_whole",5),("is_between",6),("is_value",7),("is_tuple_of",8),("worth",13),("joined_worth",14),("names_of",16),("number_of",17),("rows_of",18),("first_seat",22),("rested",23),("is_rested",24),("is_own_row",25),("behind_own_row",26),("laid",27),("touch_of",28),("seat_behind",29),("may_come",30),("first_stand",35),("hands_of",36),("state_of",37),("wait_of",38),("gone",42),("due_touch",43),("takes_gift",44),("meeting",45),("with_hand_on",46),("with_state",47),("replaced",48),("walked",51),("stepped",52),("tables_of",53),("looks_of",54),("history",55),("touches_of",56),("with_events",57),("events_by",58),("needs",61),("needs_among",62),("is_needed",63),("free_from",64),("_law_box",66),("_law_take",67),("_law_sum",68),("_law_touch_row",69),("_law_rows",70),("_law_program",71),("_law_worth",72),("_law_is_own",73),("_law_rest",74),("_law_first",75),("_law_row",76),("_law_wait",77),("_law_boxed",78),("_law_locked",79),("_law_laned",80),("_law_go",81),("_law_can",82),("_law_gift",83),("_law_drawn",84),("_law_inside",85),("_law_is_piece",86),("law",87)])
  (Z:Zs K iO)
  (C: ∀ p∈conT,∃ u,mg p.1=fI u/\JC K p.2 u)
  (D: ∀ p∈dcT,∃ a,mg p.1=fI (.ref a)/\KD l.prog w K a p.2) :
  ∃ fd:Vt,(∀(s:R8)(v:RZ),ZH s fd ⟨[v],[]⟩ [("_law_script",v)])/\ ∀ base:SM,uS l.prog w K mg base (room+1) fa fd ["_law_script"] (run tb (room+1) "law"):=by
 have T:Top l.prog w K mg tb:=⟨Zs.all X G Z,IE (conT:=conT) rfl C,GO (dcT:=dcT) rfl D,⟨(λ_ _ e=>nomatch e),λ_ _ e=>nomatch e⟩,λ_ _ _ _ _ e=>nomatch e⟩
 refine Lv T (Fs (fnT:=fnT) rfl ?_) has.Jg rfl (IV has A.2.2.2.2.2.2.2.2.2.2.2.2.2.2.2.2.2.2.2.2.2.2.2.2.2.2.2.2.2.2.2.2.2.2.2.2.2.2.2.2.2.2.2.2.2.2.2.2.2.2.2.2.2.2.2.2.2.2.2.2.2.2.1) hfa;exact cZ.go yt A λA=>cZ.go uO A λA=>cZ.go zG A λA=>cZ.go aac A λA=>cZ.go Io A λA=>cZ.go qT A λA=>cZ.go aaZ A λA=>cZ.go xW A λA=>cZ.go BB A λA=>cZ.go uL A λA=>cZ.go EK A λA=>cZ.go yc A λA=>cZ.go aaF A λA=>cZ.go oG A λA=>cZ.go L7 A λA=>cZ.go zS A λA=>cZ.go r9 A λA=>cZ.go zu A λA=>cZ.go sS A λA=>cZ.go yY A λA=>cZ.go zM A λA=>cZ.go aaf A λA=>cZ.go Lz A λA=>cZ.go aae A λA=>cZ.go vj A λA=>cZ.go Bb A λA=>cZ.go aa9 A λA=>cZ.go vv A λA=>cZ.go yA A λA=>cZ.go aaU A λA=>cZ.go Cu A λA=>cZ.go aaA A λA=>cZ.go zt A λA=>cZ.go Bu A λA=>cZ.go vg A λA=>cZ.go sA A λA=>cZ.go x9 A λA=>cZ.go H5 A λA=>cZ.go sG A λA=>cZ.go wL A λA=>cZ.go xR A λA=>cZ.go zc A λA=>cZ.go xb A λA=>cZ.go yI A λA=>cZ.go oy A λA=>cZ.go vZ A λA=>cZ.go rX A λA=>cZ.go vB A λA=>cZ.go sH A λA=>cZ.go xh A λA=>cZ.go vF A λA=>cZ.go yv A λA=>cZ.go wN A λA=>cZ.go ug A λA=>cZ.go sj A λA=>cZ.go uG A λA=>cZ.go Ct A λA=>cZ.go yp A λA=>cZ.go w8 A λA=>cZ.go aaE A λA=>cZ.go sY A λA=>cZ.go pF A λA=>cZ.go IV A λ_ p m=>nomatch m
theorem walk{l:WQ}{q:SP}{loose:List Str}{XP:(Str->Option RZ)->SM->Prop}{YP:Tp->SM->Prop}{d:DefRec}{K:Params->Sy}(hn:l.most=fI 63)(hdf:d.params.defaults=[])
  (hY: ∀(w:Tp)(h:SM),YP w h->(K w.params).In h)
  (F: ∀(w:Tp)(mg:Str->Option RZ)(fa:Sl)(h:SM),(K w.params).In h->h.Ns UI mg->mg d.name=fI (.ref fa) ->
   ∃ fd:Vt,(∀(s:R8)(u:RZ),ZH s fd ⟨[u],[]⟩ [("_law_script",u)])/\ ∀ base:SM,uS l.prog w (K w.params) mg base (room+1) fa fd ["_law_script"] (run tb (room+1) "law")) :
  Gk q loose XP YP l.row.toRowW d [] (λf vs=>Ig f vs) :=
 _P.Ho (n:=63) (k:=room+1) (sem:=run tb (room+1) "law") hn (by decide) hdf ⟨rfl,by decide,by decide,rfl⟩ hY F λns hl=>DM ns hl
end _K
open PySem PySem.W PyProof.Rows
set_option maxRecDepth 100000 in
set_option maxHeartbeats 0 in
theorem PySem.Challenge.cw_leastrecord_k31_whole_pieces_holds : PySem.Challenge.rw_leastrecord_k31_whole_pieces.Holds := by
 w_on;o_law;k_head;(case hw=>w_witness2)
 k_fill
 refine _K.walk (l:=PySem.Challenge.rw_leastrecord_k31_whole_pieces) rfl rfl (λw h Y=>PySem.W.kIn_of Y) ?F
 case F =>
  intro w mg fa h KX G hmg
  refine' _K.all_mk KX G hmg ?A ?Z ?C ?D
  case' A=>repeat' first | exact trivial | refine' Yx (_L.Om KX G ?_ ?_ ?_ ?_) ?_
  case' Z=>repeat' first | exact trivial | refine' Yx ?_ ?_
  case' C=>repeat' first | refine' VK.mpr ⟨?_,?_⟩ | exact(λ_ m=>nomatch m) | refine' _P.vw (UJ KX G ?_) (_P.CV.int _ _) | refine' _P.vw (UJ KX G ?_) (_P.CV.str _ _) | refine' _P.Ad (UJ KX G ?_) ?_ (Uh ?_) ?_ | refine' _P.Em (UJ KX G ?_) ?_ ?_ ?_ ?_ (Uh ?_) | exact Paired.nil | refine' _K.Np (_P.AI (_P.CV.int _ _)) ?_ | refine' _K.Np (_P.AI (_P.CV.str _ _)) ?_ | refine' _K.Np (_P.DK ?_ (Uh ?_) ?_) ?_ | refine' ZE (_P.CV.str _ _) ?_ | refine' ZE (_P.CV.int _ _) ?_
  case' D=>repeat' first | refine' VK.mpr ⟨?_,?_⟩ | exact(λ_ m=>nomatch m) | refine' _P.vw (UJ KX G ?_) (_P.CV.int _ _) | refine' _P.vw (UJ KX G ?_) (_P.CV.str _ _) | refine' _P.Ad (UJ KX G ?_) ?_ (Uh ?_) ?_ | refine' _P.Em (UJ KX G ?_) ?_ ?_ ?_ ?_ (Uh ?_) | exact Paired.nil | refine' _K.Np (_P.AI (_P.CV.int _ _)) ?_ | refine' _K.Np (_P.AI (_P.CV.str _ _)) ?_ | refine' _K.Np (_P.DK ?_ (Uh ?_) ?_) ?_ | refine' ZE (_P.CV.str _ _) ?_ | refine' ZE (_P.CV.int _ _) ?_
  all_goals try k_is
  all_goals try k_is
  all_goals try (first | exact rfl | decide +kernel)
end
end
end
